/-
  NARROWER THAN 'FOR EVERY INPUT', by the rows' own cells (each row's printed sentence says how): HelloWrites: laid · HelloReads: laid · HelloBack: laid · HelloAgain: laid · HelloCut: laid.
  DERIVED. THE GIVEN ROWS OF THIS SEAT. 5 by the template 'for every input the law returns true; each argument reads behind the call as it read before'; 0 by the template 'total and deterministic' (their statements: YtefcjggmlhoebaaDoorTotals.lean).
  GIVEN WITH THE SEED: the statements are not yours to turn. If you find one false, say at which input.
  Laid BY PROGRAM, IN A SANDBOX (cutbox-rows.mjs): the forced cells as the released guide's own fill.sh prints them over the translation 59e27f126b2fc733… (all of the seat's roots in one cut). By AI agents, Wed Nov 11 2026. No macro, syntax, notation, axiom, sorry.
-/
import Derived.Test.YtefcjggmlhoebaaDoorChecked
import GoSem.Claim
import GoSem.ClaimJoined
import GoSem.ClaimMapViews
import Derived.JoinedTies
import Derived.KernelRfl
namespace Go.Proofs.YtefcjggmlhoebaaDoor
/- THE CELL 'sum', in the pinned program and in every row, IS THE sha256 OF THE DUMP (.gsa) THAT YtefcjggmlhoebaaDoorProg.lean LOADS. Nothing in Lean hashes anything: it is a label: what it is worth is what the hold of that sum in a sandbox is worth. -/
noncomputable def Tryd.pinned : Pinned := { name := "ytefcjggmlhoebaadoor", sum := "59e27f126b2fc73324304bb8b3923e4d3c7115c470cd9914abff054c89ecbb0e", checked := Tryd.checked }
namespace Rows
def none {H : Type} : Left H := { results := [], args := [] }

/- WHAT THE LISTED PACKAGE-LEVEL VARIABLES READ AS WHEN THE CALL BEGINS. Each datum BY PROGRAM (the guide's laid-datum.mjs) off the statement by which the dump's own 'gosem.cut.vars' lays the variable. In a bare row this is a premise. The card (YtefcjggmlhoebaaDoorCards.lean) ties it to the program's text. -/
def laid_math_bits_deBruijn32tab {H : Type} : DataW H := .agg [.lit (.int .u8 0), .lit (.int .u8 1), .lit (.int .u8 28), .lit (.int .u8 2), .lit (.int .u8 29), .lit (.int .u8 14), .lit (.int .u8 24), .lit (.int .u8 3), .lit (.int .u8 30), .lit (.int .u8 22), .lit (.int .u8 20), .lit (.int .u8 15), .lit (.int .u8 25), .lit (.int .u8 17), .lit (.int .u8 4), .lit (.int .u8 8), .lit (.int .u8 31), .lit (.int .u8 27), .lit (.int .u8 13), .lit (.int .u8 23), .lit (.int .u8 21), .lit (.int .u8 19), .lit (.int .u8 16), .lit (.int .u8 7), .lit (.int .u8 26), .lit (.int .u8 12), .lit (.int .u8 18), .lit (.int .u8 6), .lit (.int .u8 11), .lit (.int .u8 5), .lit (.int .u8 10), .lit (.int .u8 9)]
def laid_math_bits_deBruijn64tab {H : Type} : DataW H := .agg [.lit (.int .u8 0), .lit (.int .u8 1), .lit (.int .u8 56), .lit (.int .u8 2), .lit (.int .u8 57), .lit (.int .u8 49), .lit (.int .u8 28), .lit (.int .u8 3), .lit (.int .u8 61), .lit (.int .u8 58), .lit (.int .u8 42), .lit (.int .u8 50), .lit (.int .u8 38), .lit (.int .u8 29), .lit (.int .u8 17), .lit (.int .u8 4), .lit (.int .u8 62), .lit (.int .u8 47), .lit (.int .u8 59), .lit (.int .u8 36), .lit (.int .u8 45), .lit (.int .u8 43), .lit (.int .u8 51), .lit (.int .u8 22), .lit (.int .u8 53), .lit (.int .u8 39), .lit (.int .u8 33), .lit (.int .u8 30), .lit (.int .u8 24), .lit (.int .u8 18), .lit (.int .u8 12), .lit (.int .u8 5), .lit (.int .u8 63), .lit (.int .u8 55), .lit (.int .u8 48), .lit (.int .u8 27), .lit (.int .u8 60), .lit (.int .u8 41), .lit (.int .u8 37), .lit (.int .u8 16), .lit (.int .u8 46), .lit (.int .u8 35), .lit (.int .u8 44), .lit (.int .u8 21), .lit (.int .u8 52), .lit (.int .u8 32), .lit (.int .u8 23), .lit (.int .u8 11), .lit (.int .u8 54), .lit (.int .u8 26), .lit (.int .u8 40), .lit (.int .u8 15), .lit (.int .u8 34), .lit (.int .u8 20), .lit (.int .u8 31), .lit (.int .u8 10), .lit (.int .u8 25), .lit (.int .u8 14), .lit (.int .u8 19), .lit (.int .u8 9), .lit (.int .u8 13), .lit (.int .u8 8), .lit (.int .u8 7), .lit (.int .u8 6)]

/-- 'shibbolethlaw14.HelloWrites': WHATEVER THE INPUT: true; the input reads as it did. -/
def helloWritesSpec : ChangeSpec := { name := "helloWrites", fn := fun _ => fun
  | [d] => { results := [.lit (.bool true)], args := [d] }
  | _ => none }
def helloWritesRow : OpenClaim := { program := "ytefcjggmlhoebaadoor", sum := "59e27f126b2fc73324304bb8b3923e4d3c7115c470cd9914abff054c89ecbb0e", func := "shibboleth/shibbolethlaw14.HelloWrites", spec := "helloWrites", unfollowed := true, recurses := true, named := ["math/bits.deBruijn32tab", "math/bits.deBruijn64tab"], apart := false, laid := [("math/bits.deBruijn32tab", laid_math_bits_deBruijn32tab), ("math/bits.deBruijn64tab", laid_math_bits_deBruijn64tab)] }
def HelloWritesSaid : Prop := helloWritesRow.holds Tryd.pinned (OpenSpec.ofChange helloWritesSpec)

/-- ITS FALSE NEIGHBOUR: 'it returns false'. Refute it at one input. -/
def helloWritesWrong : ChangeSpec := { name := "helloWrites", fn := fun _ => fun
  | [d] => { results := [.lit (.bool false)], args := [d] }
  | _ => none }
def HelloWritesWrongFalsely : Prop := helloWritesRow.holds Tryd.pinned (OpenSpec.ofChange helloWritesWrong)

/-- 'shibbolethlaw14.HelloReads': WHATEVER THE INPUT: true; the input reads as it did. -/
def helloReadsSpec : ChangeSpec := { name := "helloReads", fn := fun _ => fun
  | [d] => { results := [.lit (.bool true)], args := [d] }
  | _ => none }
def helloReadsRow : OpenClaim := { program := "ytefcjggmlhoebaadoor", sum := "59e27f126b2fc73324304bb8b3923e4d3c7115c470cd9914abff054c89ecbb0e", func := "shibboleth/shibbolethlaw14.HelloReads", spec := "helloReads", unfollowed := true, recurses := true, named := ["math/bits.deBruijn32tab", "math/bits.deBruijn64tab"], apart := false, laid := [("math/bits.deBruijn32tab", laid_math_bits_deBruijn32tab), ("math/bits.deBruijn64tab", laid_math_bits_deBruijn64tab)] }
def HelloReadsSaid : Prop := helloReadsRow.holds Tryd.pinned (OpenSpec.ofChange helloReadsSpec)

/-- ITS FALSE NEIGHBOUR: 'it returns false'. Refute it at one input. -/
def helloReadsWrong : ChangeSpec := { name := "helloReads", fn := fun _ => fun
  | [d] => { results := [.lit (.bool false)], args := [d] }
  | _ => none }
def HelloReadsWrongFalsely : Prop := helloReadsRow.holds Tryd.pinned (OpenSpec.ofChange helloReadsWrong)

/-- 'shibbolethlaw14.HelloBack': WHATEVER THE INPUT: true; the input reads as it did. -/
def helloBackSpec : ChangeSpec := { name := "helloBack", fn := fun _ => fun
  | [d] => { results := [.lit (.bool true)], args := [d] }
  | _ => none }
def helloBackRow : OpenClaim := { program := "ytefcjggmlhoebaadoor", sum := "59e27f126b2fc73324304bb8b3923e4d3c7115c470cd9914abff054c89ecbb0e", func := "shibboleth/shibbolethlaw14.HelloBack", spec := "helloBack", unfollowed := true, recurses := true, named := ["math/bits.deBruijn32tab", "math/bits.deBruijn64tab"], apart := false, laid := [("math/bits.deBruijn32tab", laid_math_bits_deBruijn32tab), ("math/bits.deBruijn64tab", laid_math_bits_deBruijn64tab)] }
def HelloBackSaid : Prop := helloBackRow.holds Tryd.pinned (OpenSpec.ofChange helloBackSpec)

/-- ITS FALSE NEIGHBOUR: 'it returns false'. Refute it at one input. -/
def helloBackWrong : ChangeSpec := { name := "helloBack", fn := fun _ => fun
  | [d] => { results := [.lit (.bool false)], args := [d] }
  | _ => none }
def HelloBackWrongFalsely : Prop := helloBackRow.holds Tryd.pinned (OpenSpec.ofChange helloBackWrong)

/-- 'shibbolethlaw14.HelloAgain': WHATEVER THE INPUT: true; the input reads as it did. -/
def helloAgainSpec : ChangeSpec := { name := "helloAgain", fn := fun _ => fun
  | [d] => { results := [.lit (.bool true)], args := [d] }
  | _ => none }
def helloAgainRow : OpenClaim := { program := "ytefcjggmlhoebaadoor", sum := "59e27f126b2fc73324304bb8b3923e4d3c7115c470cd9914abff054c89ecbb0e", func := "shibboleth/shibbolethlaw14.HelloAgain", spec := "helloAgain", unfollowed := true, recurses := true, named := ["math/bits.deBruijn32tab", "math/bits.deBruijn64tab"], apart := false, laid := [("math/bits.deBruijn32tab", laid_math_bits_deBruijn32tab), ("math/bits.deBruijn64tab", laid_math_bits_deBruijn64tab)] }
def HelloAgainSaid : Prop := helloAgainRow.holds Tryd.pinned (OpenSpec.ofChange helloAgainSpec)

/-- ITS FALSE NEIGHBOUR: 'it returns false'. Refute it at one input. -/
def helloAgainWrong : ChangeSpec := { name := "helloAgain", fn := fun _ => fun
  | [d] => { results := [.lit (.bool false)], args := [d] }
  | _ => none }
def HelloAgainWrongFalsely : Prop := helloAgainRow.holds Tryd.pinned (OpenSpec.ofChange helloAgainWrong)

/-- 'shibbolethlaw14.HelloCut': WHATEVER THE INPUT: true; the input reads as it did. -/
def helloCutSpec : ChangeSpec := { name := "helloCut", fn := fun _ => fun
  | [d1, d2] => { results := [.lit (.bool true)], args := [d1, d2] }
  | _ => none }
def helloCutRow : OpenClaim := { program := "ytefcjggmlhoebaadoor", sum := "59e27f126b2fc73324304bb8b3923e4d3c7115c470cd9914abff054c89ecbb0e", func := "shibboleth/shibbolethlaw14.HelloCut", spec := "helloCut", unfollowed := true, recurses := true, named := ["math/bits.deBruijn32tab", "math/bits.deBruijn64tab"], apart := false, laid := [("math/bits.deBruijn32tab", laid_math_bits_deBruijn32tab), ("math/bits.deBruijn64tab", laid_math_bits_deBruijn64tab)] }
def HelloCutSaid : Prop := helloCutRow.holds Tryd.pinned (OpenSpec.ofChange helloCutSpec)

/-- ITS FALSE NEIGHBOUR: 'it returns false'. Refute it at one input. -/
def helloCutWrong : ChangeSpec := { name := "helloCut", fn := fun _ => fun
  | [d1, d2] => { results := [.lit (.bool false)], args := [d1, d2] }
  | _ => none }
def HelloCutWrongFalsely : Prop := helloCutRow.holds Tryd.pinned (OpenSpec.ofChange helloCutWrong)

/- THE SECOND FORM. 'bulk': how many values and letters a reading holds, each counted each time it is reached (what is shared counts as often as it is met; a slice's spare places count too). A statement '..UptoSaid' is the law's where the arguments, and the package variables that the reading takes, are together of bulk at most 1048576: NARROWER than '..Said'. Prove '..Said' where nothing that the law and all that it calls make is longer than what came in: it says more and counts as full. Else prove '..UptoSaid'. A law counts once. -/
mutual
def uptoBulk {H : Type} : DataW H → Nat
  | .lit (.string bytes) => bytes.length + 1
  | .lit _ => 1
  | .nil => 1
  | .ptr d => uptoBulk d + 1
  | .slice elems spare => uptoBulkAll elems + uptoBulkAll spare + 1
  | .agg parts => uptoBulkAll parts + 1
  | .iface _ d => uptoBulk d + 1
  | .map entries => uptoBulkEntries entries + 1
  | .held _ => 1
def uptoBulkAll {H : Type} : List (DataW H) → Nat
  | [] => 0
  | d :: r => uptoBulk d + uptoBulkAll r
def uptoBulkEntries {H : Type} : List (Lit × DataW H) → Nat
  | [] => 0
  | x :: r => uptoBulkEntry x + uptoBulkEntries r
def uptoBulkEntry {H : Type} : Lit × DataW H → Nat
  | (.string bytes, d) => bytes.length + uptoBulk d + 1
  | (_, d) => uptoBulk d + 1
 end
def uptoSmall : (H : Type) → List (DataW H) → Bool := fun _ ds => decide (uptoBulkAll ds ≤ 1048576)
def OpenSpec.upto (s : _root_.Go.ChangeSpec) : _root_.Go.OpenSpec := { _root_.Go.OpenSpec.ofChange s with cond := some uptoSmall }

/-- 'shibbolethlaw14.HelloWrites', WHERE WHAT IT READS IS OF BULK AT MOST 1048576: true; the input reads as it did. -/
def helloWritesUptoRow : OpenClaim := { program := "ytefcjggmlhoebaadoor", sum := "59e27f126b2fc73324304bb8b3923e4d3c7115c470cd9914abff054c89ecbb0e", func := "shibboleth/shibbolethlaw14.HelloWrites", spec := "helloWrites", unfollowed := true, recurses := true, named := ["math/bits.deBruijn32tab", "math/bits.deBruijn64tab"], apart := false, laid := [("math/bits.deBruijn32tab", laid_math_bits_deBruijn32tab), ("math/bits.deBruijn64tab", laid_math_bits_deBruijn64tab)], narrowed := true }
def HelloWritesUptoSaid : Prop := helloWritesUptoRow.holds Tryd.pinned (OpenSpec.upto helloWritesSpec)

/-- 'shibbolethlaw14.HelloReads', WHERE WHAT IT READS IS OF BULK AT MOST 1048576: true; the input reads as it did. -/
def helloReadsUptoRow : OpenClaim := { program := "ytefcjggmlhoebaadoor", sum := "59e27f126b2fc73324304bb8b3923e4d3c7115c470cd9914abff054c89ecbb0e", func := "shibboleth/shibbolethlaw14.HelloReads", spec := "helloReads", unfollowed := true, recurses := true, named := ["math/bits.deBruijn32tab", "math/bits.deBruijn64tab"], apart := false, laid := [("math/bits.deBruijn32tab", laid_math_bits_deBruijn32tab), ("math/bits.deBruijn64tab", laid_math_bits_deBruijn64tab)], narrowed := true }
def HelloReadsUptoSaid : Prop := helloReadsUptoRow.holds Tryd.pinned (OpenSpec.upto helloReadsSpec)

/-- 'shibbolethlaw14.HelloBack', WHERE WHAT IT READS IS OF BULK AT MOST 1048576: true; the input reads as it did. -/
def helloBackUptoRow : OpenClaim := { program := "ytefcjggmlhoebaadoor", sum := "59e27f126b2fc73324304bb8b3923e4d3c7115c470cd9914abff054c89ecbb0e", func := "shibboleth/shibbolethlaw14.HelloBack", spec := "helloBack", unfollowed := true, recurses := true, named := ["math/bits.deBruijn32tab", "math/bits.deBruijn64tab"], apart := false, laid := [("math/bits.deBruijn32tab", laid_math_bits_deBruijn32tab), ("math/bits.deBruijn64tab", laid_math_bits_deBruijn64tab)], narrowed := true }
def HelloBackUptoSaid : Prop := helloBackUptoRow.holds Tryd.pinned (OpenSpec.upto helloBackSpec)

/-- 'shibbolethlaw14.HelloAgain', WHERE WHAT IT READS IS OF BULK AT MOST 1048576: true; the input reads as it did. -/
def helloAgainUptoRow : OpenClaim := { program := "ytefcjggmlhoebaadoor", sum := "59e27f126b2fc73324304bb8b3923e4d3c7115c470cd9914abff054c89ecbb0e", func := "shibboleth/shibbolethlaw14.HelloAgain", spec := "helloAgain", unfollowed := true, recurses := true, named := ["math/bits.deBruijn32tab", "math/bits.deBruijn64tab"], apart := false, laid := [("math/bits.deBruijn32tab", laid_math_bits_deBruijn32tab), ("math/bits.deBruijn64tab", laid_math_bits_deBruijn64tab)], narrowed := true }
def HelloAgainUptoSaid : Prop := helloAgainUptoRow.holds Tryd.pinned (OpenSpec.upto helloAgainSpec)

/-- 'shibbolethlaw14.HelloCut', WHERE WHAT IT READS IS OF BULK AT MOST 1048576: true; the input reads as it did. -/
def helloCutUptoRow : OpenClaim := { program := "ytefcjggmlhoebaadoor", sum := "59e27f126b2fc73324304bb8b3923e4d3c7115c470cd9914abff054c89ecbb0e", func := "shibboleth/shibbolethlaw14.HelloCut", spec := "helloCut", unfollowed := true, recurses := true, named := ["math/bits.deBruijn32tab", "math/bits.deBruijn64tab"], apart := false, laid := [("math/bits.deBruijn32tab", laid_math_bits_deBruijn32tab), ("math/bits.deBruijn64tab", laid_math_bits_deBruijn64tab)], narrowed := true }
def HelloCutUptoSaid : Prop := helloCutUptoRow.holds Tryd.pinned (OpenSpec.upto helloCutSpec)

end Rows
end Go.Proofs.YtefcjggmlhoebaaDoor
