/- The bytes of a retry: the document's. -/
import Derived.Test.YtkmjdpnbakcgcaaQRetry
namespace Go.Proofs.Ytkmjdpnbakcgcaa
open Go Go.RowKit

/-- May a retry without its tag be? -/
def bodyB (ver : Int) (to fr : List Int) (tok : Int) : Bool := (decide (to.length ≤ 20) && decide (fr.length ≤ 20)) && verB ver && termB tok
/-- Its bytes; none, if it may not be. -/
def bodyW (ver : Int) (to fr : List Int) (tok : Int) : List Int := if bodyB ver to fr tok then headBs 240 ver to fr ++ numB tok else []
theorem bodyW_byt {ver tok : Int} {to fr : List Int} (ht : Byt to) (hf : Byt fr) : Byt (bodyW ver to fr tok) := by
  unfold bodyW
  split
  · rename_i h
    simp only [bodyB, Bool.and_eq_true, decide_eq_true_eq] at h
    exact (headBs_byt (by omega) ht hf (by omega) (by omega)).app (numB_byt _)
  · exact Byt.nil
theorem bodyW_len {ver tok : Int} {to fr : List Int} : (bodyW ver to fr tok).length ≤ 100000 := by
  unfold bodyW
  split
  · rename_i h
    simp only [bodyB, Bool.and_eq_true, decide_eq_true_eq] at h
    rw [List.length_append, headBs_len, numB_len]
    split <;> omega
  · simp
theorem retryW_body (ver : Int) (to fr : List Int) (tok tag : Int) : retryW ver to fr tok tag = if bodyW ver to fr tok = [] ∨ numB tag = [] then [] else bodyW ver to fr tok ++ numB tag := by
  simp only [numB_iff]
  unfold retryW bodyW
  have e : retryB ver to fr tok tag = (bodyB ver to fr tok && termB tag) := by
    unfold retryB bodyB
    generalize (decide (to.length ≤ 20) && decide (fr.length ≤ 20)) = a
    cases verB ver <;> cases a <;> cases termB tok <;> cases termB tag <;> rfl
  rw [e]
  cases bodyB ver to fr tok <;> cases termB tag <;> simp [headBs]

end Go.Proofs.Ytkmjdpnbakcgcaa
