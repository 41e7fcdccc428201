/-
  No cell of these rows narrows 'for every input' (looked for: loops, veiled, ifaces, maps, wideKeys, modest, calm, conditions, laid).
  DERIVED. THE GIVEN ROWS OF THIS SEAT. 6 by the template 'for every input the law returns true; each argument reads behind the call as it read before'; 0 by the template 'total and deterministic' (their statements: YthfmpnikchlhlaaTotals.lean).
  GIVEN WITH THE SEED: the statements are not yours to turn. If you find one false, say at which input.
  Laid BY PROGRAM, IN A SANDBOX (cutbox-rows.mjs): the forced cells as the released guide's own fill.sh prints them over the translation dcc8c35824ff1dac… (all of the seat's roots in one cut). By AI agents, Wed Nov 11 2026. No macro, syntax, notation, axiom, sorry.
-/
import Derived.Test.YthfmpnikchlhlaaChecked
import GoSem.Claim
import GoSem.ClaimJoined
import GoSem.ClaimMapViews
import Derived.JoinedTies
import Derived.KernelRfl
namespace Go.Proofs.Ythfmpnikchlhlaa
/- THE CELL 'sum', in the pinned program and in every row, IS THE sha256 OF THE DUMP (.gsa) THAT YthfmpnikchlhlaaProg.lean LOADS. Nothing in Lean hashes anything: it is a label: what it is worth is what the hold of that sum in a sandbox is worth. -/
noncomputable def Try.pinned : Pinned := { name := "ythfmpnikchlhlaa", sum := "dcc8c35824ff1dac7ac5304d2dcc63f6257d831e74dda1c1774040377f9f3afa", checked := Try.checked }
namespace Rows
def none {H : Type} : Left H := { results := [], args := [] }

/-- 'shibbolethlaw13.StreamActs': WHATEVER THE INPUT: true; the input reads as it did. -/
def streamActsSpec : ChangeSpec := { name := "streamActs", fn := fun _ => fun
  | [d] => { results := [.lit (.bool true)], args := [d] }
  | _ => none }
def streamActsRow : OpenClaim := { program := "ythfmpnikchlhlaa", sum := "dcc8c35824ff1dac7ac5304d2dcc63f6257d831e74dda1c1774040377f9f3afa", func := "shibboleth/shibbolethlaw13.StreamActs", spec := "streamActs", apart := false }
def StreamActsSaid : Prop := streamActsRow.holds Try.pinned (OpenSpec.ofChange streamActsSpec)

/-- ITS FALSE NEIGHBOUR: 'it returns false'. Refute it at one input. -/
def streamActsWrong : ChangeSpec := { name := "streamActs", fn := fun _ => fun
  | [d] => { results := [.lit (.bool false)], args := [d] }
  | _ => none }
def StreamActsWrongFalsely : Prop := streamActsRow.holds Try.pinned (OpenSpec.ofChange streamActsWrong)

/-- 'shibbolethlaw13.StreamMessages': WHATEVER THE INPUT: true; the input reads as it did. -/
def streamMessagesSpec : ChangeSpec := { name := "streamMessages", fn := fun _ => fun
  | [d1, d2] => { results := [.lit (.bool true)], args := [d1, d2] }
  | _ => none }
def streamMessagesRow : OpenClaim := { program := "ythfmpnikchlhlaa", sum := "dcc8c35824ff1dac7ac5304d2dcc63f6257d831e74dda1c1774040377f9f3afa", func := "shibboleth/shibbolethlaw13.StreamMessages", spec := "streamMessages", unfollowed := true, recurses := true, apart := false }
def StreamMessagesSaid : Prop := streamMessagesRow.holds Try.pinned (OpenSpec.ofChange streamMessagesSpec)

/-- ITS FALSE NEIGHBOUR: 'it returns false'. Refute it at one input. -/
def streamMessagesWrong : ChangeSpec := { name := "streamMessages", fn := fun _ => fun
  | [d1, d2] => { results := [.lit (.bool false)], args := [d1, d2] }
  | _ => none }
def StreamMessagesWrongFalsely : Prop := streamMessagesRow.holds Try.pinned (OpenSpec.ofChange streamMessagesWrong)

/-- 'shibbolethlaw13.StreamOrders': WHATEVER THE INPUT: true; the input reads as it did. -/
def streamOrdersSpec : ChangeSpec := { name := "streamOrders", fn := fun _ => fun
  | [d1, d2, d3] => { results := [.lit (.bool true)], args := [d1, d2, d3] }
  | _ => none }
def streamOrdersRow : OpenClaim := { program := "ythfmpnikchlhlaa", sum := "dcc8c35824ff1dac7ac5304d2dcc63f6257d831e74dda1c1774040377f9f3afa", func := "shibboleth/shibbolethlaw13.StreamOrders", spec := "streamOrders", apart := false }
def StreamOrdersSaid : Prop := streamOrdersRow.holds Try.pinned (OpenSpec.ofChange streamOrdersSpec)

/-- ITS FALSE NEIGHBOUR: 'it returns false'. Refute it at one input. -/
def streamOrdersWrong : ChangeSpec := { name := "streamOrders", fn := fun _ => fun
  | [d1, d2, d3] => { results := [.lit (.bool false)], args := [d1, d2, d3] }
  | _ => none }
def StreamOrdersWrongFalsely : Prop := streamOrdersRow.holds Try.pinned (OpenSpec.ofChange streamOrdersWrong)

/-- 'shibbolethlaw13.StreamJoins': WHATEVER THE INPUT: true; the input reads as it did. -/
def streamJoinsSpec : ChangeSpec := { name := "streamJoins", fn := fun _ => fun
  | [d1, d2] => { results := [.lit (.bool true)], args := [d1, d2] }
  | _ => none }
def streamJoinsRow : OpenClaim := { program := "ythfmpnikchlhlaa", sum := "dcc8c35824ff1dac7ac5304d2dcc63f6257d831e74dda1c1774040377f9f3afa", func := "shibboleth/shibbolethlaw13.StreamJoins", spec := "streamJoins", unfollowed := true, recurses := true, apart := false }
def StreamJoinsSaid : Prop := streamJoinsRow.holds Try.pinned (OpenSpec.ofChange streamJoinsSpec)

/-- ITS FALSE NEIGHBOUR: 'it returns false'. Refute it at one input. -/
def streamJoinsWrong : ChangeSpec := { name := "streamJoins", fn := fun _ => fun
  | [d1, d2] => { results := [.lit (.bool false)], args := [d1, d2] }
  | _ => none }
def StreamJoinsWrongFalsely : Prop := streamJoinsRow.holds Try.pinned (OpenSpec.ofChange streamJoinsWrong)

/-- 'shibbolethlaw13.StreamBack': WHATEVER THE INPUT: true; the input reads as it did. -/
def streamBackSpec : ChangeSpec := { name := "streamBack", fn := fun _ => fun
  | [d1, d2] => { results := [.lit (.bool true)], args := [d1, d2] }
  | _ => none }
def streamBackRow : OpenClaim := { program := "ythfmpnikchlhlaa", sum := "dcc8c35824ff1dac7ac5304d2dcc63f6257d831e74dda1c1774040377f9f3afa", func := "shibboleth/shibbolethlaw13.StreamBack", spec := "streamBack", unfollowed := true, recurses := true, apart := false }
def StreamBackSaid : Prop := streamBackRow.holds Try.pinned (OpenSpec.ofChange streamBackSpec)

/-- ITS FALSE NEIGHBOUR: 'it returns false'. Refute it at one input. -/
def streamBackWrong : ChangeSpec := { name := "streamBack", fn := fun _ => fun
  | [d1, d2] => { results := [.lit (.bool false)], args := [d1, d2] }
  | _ => none }
def StreamBackWrongFalsely : Prop := streamBackRow.holds Try.pinned (OpenSpec.ofChange streamBackWrong)

/-- 'shibbolethlaw13.StreamFar': WHATEVER THE INPUT: true; the input reads as it did. -/
def streamFarSpec : ChangeSpec := { name := "streamFar", fn := fun _ => fun
  | [d1, d2] => { results := [.lit (.bool true)], args := [d1, d2] }
  | _ => none }
def streamFarRow : OpenClaim := { program := "ythfmpnikchlhlaa", sum := "dcc8c35824ff1dac7ac5304d2dcc63f6257d831e74dda1c1774040377f9f3afa", func := "shibboleth/shibbolethlaw13.StreamFar", spec := "streamFar", apart := false }
def StreamFarSaid : Prop := streamFarRow.holds Try.pinned (OpenSpec.ofChange streamFarSpec)

/-- ITS FALSE NEIGHBOUR: 'it returns false'. Refute it at one input. -/
def streamFarWrong : ChangeSpec := { name := "streamFar", fn := fun _ => fun
  | [d1, d2] => { results := [.lit (.bool false)], args := [d1, d2] }
  | _ => none }
def StreamFarWrongFalsely : Prop := streamFarRow.holds Try.pinned (OpenSpec.ofChange streamFarWrong)

/- THE SECOND FORM. 'bulk': how many values and letters a reading holds, each counted each time it is reached (what is shared counts as often as it is met; a slice's spare places count too). A statement '..UptoSaid' is the law's where the arguments, and the package variables that the reading takes, are together of bulk at most 1048576: NARROWER than '..Said'. Prove '..Said' where nothing that the law and all that it calls make is longer than what came in: it says more and counts as full. Else prove '..UptoSaid'. A law counts once. -/
mutual
def uptoBulk {H : Type} : DataW H → Nat
  | .lit (.string bytes) => bytes.length + 1
  | .lit _ => 1
  | .nil => 1
  | .ptr d => uptoBulk d + 1
  | .slice elems spare => uptoBulkAll elems + uptoBulkAll spare + 1
  | .agg parts => uptoBulkAll parts + 1
  | .iface _ d => uptoBulk d + 1
  | .map entries => uptoBulkEntries entries + 1
  | .held _ => 1
def uptoBulkAll {H : Type} : List (DataW H) → Nat
  | [] => 0
  | d :: r => uptoBulk d + uptoBulkAll r
def uptoBulkEntries {H : Type} : List (Lit × DataW H) → Nat
  | [] => 0
  | x :: r => uptoBulkEntry x + uptoBulkEntries r
def uptoBulkEntry {H : Type} : Lit × DataW H → Nat
  | (.string bytes, d) => bytes.length + uptoBulk d + 1
  | (_, d) => uptoBulk d + 1
 end
def uptoSmall : (H : Type) → List (DataW H) → Bool := fun _ ds => decide (uptoBulkAll ds ≤ 1048576)
def OpenSpec.upto (s : _root_.Go.ChangeSpec) : _root_.Go.OpenSpec := { _root_.Go.OpenSpec.ofChange s with cond := some uptoSmall }

/-- 'shibbolethlaw13.StreamActs', WHERE WHAT IT READS IS OF BULK AT MOST 1048576: true; the input reads as it did. -/
def streamActsUptoRow : OpenClaim := { program := "ythfmpnikchlhlaa", sum := "dcc8c35824ff1dac7ac5304d2dcc63f6257d831e74dda1c1774040377f9f3afa", func := "shibboleth/shibbolethlaw13.StreamActs", spec := "streamActs", apart := false, narrowed := true }
def StreamActsUptoSaid : Prop := streamActsUptoRow.holds Try.pinned (OpenSpec.upto streamActsSpec)

/-- 'shibbolethlaw13.StreamMessages', WHERE WHAT IT READS IS OF BULK AT MOST 1048576: true; the input reads as it did. -/
def streamMessagesUptoRow : OpenClaim := { program := "ythfmpnikchlhlaa", sum := "dcc8c35824ff1dac7ac5304d2dcc63f6257d831e74dda1c1774040377f9f3afa", func := "shibboleth/shibbolethlaw13.StreamMessages", spec := "streamMessages", unfollowed := true, recurses := true, apart := false, narrowed := true }
def StreamMessagesUptoSaid : Prop := streamMessagesUptoRow.holds Try.pinned (OpenSpec.upto streamMessagesSpec)

/-- 'shibbolethlaw13.StreamOrders', WHERE WHAT IT READS IS OF BULK AT MOST 1048576: true; the input reads as it did. -/
def streamOrdersUptoRow : OpenClaim := { program := "ythfmpnikchlhlaa", sum := "dcc8c35824ff1dac7ac5304d2dcc63f6257d831e74dda1c1774040377f9f3afa", func := "shibboleth/shibbolethlaw13.StreamOrders", spec := "streamOrders", apart := false, narrowed := true }
def StreamOrdersUptoSaid : Prop := streamOrdersUptoRow.holds Try.pinned (OpenSpec.upto streamOrdersSpec)

/-- 'shibbolethlaw13.StreamJoins', WHERE WHAT IT READS IS OF BULK AT MOST 1048576: true; the input reads as it did. -/
def streamJoinsUptoRow : OpenClaim := { program := "ythfmpnikchlhlaa", sum := "dcc8c35824ff1dac7ac5304d2dcc63f6257d831e74dda1c1774040377f9f3afa", func := "shibboleth/shibbolethlaw13.StreamJoins", spec := "streamJoins", unfollowed := true, recurses := true, apart := false, narrowed := true }
def StreamJoinsUptoSaid : Prop := streamJoinsUptoRow.holds Try.pinned (OpenSpec.upto streamJoinsSpec)

/-- 'shibbolethlaw13.StreamBack', WHERE WHAT IT READS IS OF BULK AT MOST 1048576: true; the input reads as it did. -/
def streamBackUptoRow : OpenClaim := { program := "ythfmpnikchlhlaa", sum := "dcc8c35824ff1dac7ac5304d2dcc63f6257d831e74dda1c1774040377f9f3afa", func := "shibboleth/shibbolethlaw13.StreamBack", spec := "streamBack", unfollowed := true, recurses := true, apart := false, narrowed := true }
def StreamBackUptoSaid : Prop := streamBackUptoRow.holds Try.pinned (OpenSpec.upto streamBackSpec)

/-- 'shibbolethlaw13.StreamFar', WHERE WHAT IT READS IS OF BULK AT MOST 1048576: true; the input reads as it did. -/
def streamFarUptoRow : OpenClaim := { program := "ythfmpnikchlhlaa", sum := "dcc8c35824ff1dac7ac5304d2dcc63f6257d831e74dda1c1774040377f9f3afa", func := "shibboleth/shibbolethlaw13.StreamFar", spec := "streamFar", apart := false, narrowed := true }
def StreamFarUptoSaid : Prop := streamFarUptoRow.holds Try.pinned (OpenSpec.upto streamFarSpec)

end Rows
end Go.Proofs.Ythfmpnikchlhlaa
