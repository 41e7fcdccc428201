/-
  No cell of these rows narrows 'for every input' (looked for: loops, veiled, ifaces, maps, wideKeys, modest, calm, conditions, laid).
  DERIVED. THE GIVEN ROWS OF THIS SEAT. 6 by the template 'for every input the law returns true; each argument reads behind the call as it read before'; 0 by the template 'total and deterministic' (their statements: YtallpkchhkdanaaTotals.lean).
  GIVEN WITH THE SEED: the statements are not yours to turn. If you find one false, say at which input.
  Laid BY PROGRAM, IN A SANDBOX (cutbox-rows.mjs): the forced cells as the released guide's own fill.sh prints them over the translation a593f74b6d538c43… (all of the seat's roots in one cut). By AI agents, Wed Nov 11 2026. No macro, syntax, notation, axiom, sorry.
-/
import Derived.Test.YtallpkchhkdanaaChecked
import GoSem.Claim
import GoSem.ClaimJoined
import GoSem.ClaimMapViews
import Derived.JoinedTies
import Derived.KernelRfl
namespace Go.Proofs.Ytallpkchhkdanaa
/- THE CELL 'sum', in the pinned program and in every row, IS THE sha256 OF THE DUMP (.gsa) THAT YtallpkchhkdanaaProg.lean LOADS. Nothing in Lean hashes anything: it is a label: what it is worth is what the hold of that sum in a sandbox is worth. -/
noncomputable def Try.pinned : Pinned := { name := "ytallpkchhkdanaa", sum := "a593f74b6d538c434cd5ab14d63c38744e0fe9e7b249a8329f3f07a235cd012e", checked := Try.checked }
namespace Rows
def none {H : Type} : Left H := { results := [], args := [] }

/-- 'shibbolethlaw18.StrikeTries': WHATEVER THE INPUT: true; the input reads as it did. -/
def strikeTriesSpec : ChangeSpec := { name := "strikeTries", fn := fun _ => fun
  | [d1, d2, d3] => { results := [.lit (.bool true)], args := [d1, d2, d3] }
  | _ => none }
def strikeTriesRow : OpenClaim := { program := "ytallpkchhkdanaa", sum := "a593f74b6d538c434cd5ab14d63c38744e0fe9e7b249a8329f3f07a235cd012e", func := "shibboleth/shibbolethlaw18.StrikeTries", spec := "strikeTries", apart := false }
def StrikeTriesSaid : Prop := strikeTriesRow.holds Try.pinned (OpenSpec.ofChange strikeTriesSpec)

/-- ITS FALSE NEIGHBOUR: 'it returns false'. Refute it at one input. -/
def strikeTriesWrong : ChangeSpec := { name := "strikeTries", fn := fun _ => fun
  | [d1, d2, d3] => { results := [.lit (.bool false)], args := [d1, d2, d3] }
  | _ => none }
def StrikeTriesWrongFalsely : Prop := strikeTriesRow.holds Try.pinned (OpenSpec.ofChange strikeTriesWrong)

/-- 'shibbolethlaw18.StrikeOnce': WHATEVER THE INPUT: true; the input reads as it did. -/
def strikeOnceSpec : ChangeSpec := { name := "strikeOnce", fn := fun _ => fun
  | [d1, d2, d3] => { results := [.lit (.bool true)], args := [d1, d2, d3] }
  | _ => none }
def strikeOnceRow : OpenClaim := { program := "ytallpkchhkdanaa", sum := "a593f74b6d538c434cd5ab14d63c38744e0fe9e7b249a8329f3f07a235cd012e", func := "shibboleth/shibbolethlaw18.StrikeOnce", spec := "strikeOnce", apart := false }
def StrikeOnceSaid : Prop := strikeOnceRow.holds Try.pinned (OpenSpec.ofChange strikeOnceSpec)

/-- ITS FALSE NEIGHBOUR: 'it returns false'. Refute it at one input. -/
def strikeOnceWrong : ChangeSpec := { name := "strikeOnce", fn := fun _ => fun
  | [d1, d2, d3] => { results := [.lit (.bool false)], args := [d1, d2, d3] }
  | _ => none }
def StrikeOnceWrongFalsely : Prop := strikeOnceRow.holds Try.pinned (OpenSpec.ofChange strikeOnceWrong)

/-- 'shibbolethlaw18.StrikeFull': WHATEVER THE INPUT: true; the input reads as it did. -/
def strikeFullSpec : ChangeSpec := { name := "strikeFull", fn := fun _ => fun
  | [d1, d2] => { results := [.lit (.bool true)], args := [d1, d2] }
  | _ => none }
def strikeFullRow : OpenClaim := { program := "ytallpkchhkdanaa", sum := "a593f74b6d538c434cd5ab14d63c38744e0fe9e7b249a8329f3f07a235cd012e", func := "shibboleth/shibbolethlaw18.StrikeFull", spec := "strikeFull", apart := false }
def StrikeFullSaid : Prop := strikeFullRow.holds Try.pinned (OpenSpec.ofChange strikeFullSpec)

/-- ITS FALSE NEIGHBOUR: 'it returns false'. Refute it at one input. -/
def strikeFullWrong : ChangeSpec := { name := "strikeFull", fn := fun _ => fun
  | [d1, d2] => { results := [.lit (.bool false)], args := [d1, d2] }
  | _ => none }
def StrikeFullWrongFalsely : Prop := strikeFullRow.holds Try.pinned (OpenSpec.ofChange strikeFullWrong)

/-- 'shibbolethlaw19.ChoosePicks': WHATEVER THE INPUT: true; the input reads as it did. -/
def choosePicksSpec : ChangeSpec := { name := "choosePicks", fn := fun _ => fun
  | [d1, d2, d3] => { results := [.lit (.bool true)], args := [d1, d2, d3] }
  | _ => none }
def choosePicksRow : OpenClaim := { program := "ytallpkchhkdanaa", sum := "a593f74b6d538c434cd5ab14d63c38744e0fe9e7b249a8329f3f07a235cd012e", func := "shibboleth/shibbolethlaw19.ChoosePicks", spec := "choosePicks", unfollowed := true, recurses := true, apart := false }
def ChoosePicksSaid : Prop := choosePicksRow.holds Try.pinned (OpenSpec.ofChange choosePicksSpec)

/-- ITS FALSE NEIGHBOUR: 'it returns false'. Refute it at one input. -/
def choosePicksWrong : ChangeSpec := { name := "choosePicks", fn := fun _ => fun
  | [d1, d2, d3] => { results := [.lit (.bool false)], args := [d1, d2, d3] }
  | _ => none }
def ChoosePicksWrongFalsely : Prop := choosePicksRow.holds Try.pinned (OpenSpec.ofChange choosePicksWrong)

/-- 'shibbolethlaw19.ChooseVerifies': WHATEVER THE INPUT: true; the input reads as it did. -/
def chooseVerifiesSpec : ChangeSpec := { name := "chooseVerifies", fn := fun _ => fun
  | [d] => { results := [.lit (.bool true)], args := [d] }
  | _ => none }
def chooseVerifiesRow : OpenClaim := { program := "ytallpkchhkdanaa", sum := "a593f74b6d538c434cd5ab14d63c38744e0fe9e7b249a8329f3f07a235cd012e", func := "shibboleth/shibbolethlaw19.ChooseVerifies", spec := "chooseVerifies", unfollowed := true, recurses := true, apart := false }
def ChooseVerifiesSaid : Prop := chooseVerifiesRow.holds Try.pinned (OpenSpec.ofChange chooseVerifiesSpec)

/-- ITS FALSE NEIGHBOUR: 'it returns false'. Refute it at one input. -/
def chooseVerifiesWrong : ChangeSpec := { name := "chooseVerifies", fn := fun _ => fun
  | [d] => { results := [.lit (.bool false)], args := [d] }
  | _ => none }
def ChooseVerifiesWrongFalsely : Prop := chooseVerifiesRow.holds Try.pinned (OpenSpec.ofChange chooseVerifiesWrong)

/-- 'shibbolethlaw19.ChooseBoth': WHATEVER THE INPUT: true; the input reads as it did. -/
def chooseBothSpec : ChangeSpec := { name := "chooseBoth", fn := fun _ => fun
  | [d1, d2] => { results := [.lit (.bool true)], args := [d1, d2] }
  | _ => none }
def chooseBothRow : OpenClaim := { program := "ytallpkchhkdanaa", sum := "a593f74b6d538c434cd5ab14d63c38744e0fe9e7b249a8329f3f07a235cd012e", func := "shibboleth/shibbolethlaw19.ChooseBoth", spec := "chooseBoth", unfollowed := true, recurses := true, apart := false }
def ChooseBothSaid : Prop := chooseBothRow.holds Try.pinned (OpenSpec.ofChange chooseBothSpec)

/-- ITS FALSE NEIGHBOUR: 'it returns false'. Refute it at one input. -/
def chooseBothWrong : ChangeSpec := { name := "chooseBoth", fn := fun _ => fun
  | [d1, d2] => { results := [.lit (.bool false)], args := [d1, d2] }
  | _ => none }
def ChooseBothWrongFalsely : Prop := chooseBothRow.holds Try.pinned (OpenSpec.ofChange chooseBothWrong)

/- THE SECOND FORM. 'bulk': how many values and letters a reading holds, each counted each time it is reached (what is shared counts as often as it is met; a slice's spare places count too). A statement '..UptoSaid' is the law's where the arguments, and the package variables that the reading takes, are together of bulk at most 1048576: NARROWER than '..Said'. Prove '..Said' where nothing that the law and all that it calls make is longer than what came in: it says more and counts as full. Else prove '..UptoSaid'. A law counts once. -/
mutual
def uptoBulk {H : Type} : DataW H → Nat
  | .lit (.string bytes) => bytes.length + 1
  | .lit _ => 1
  | .nil => 1
  | .ptr d => uptoBulk d + 1
  | .slice elems spare => uptoBulkAll elems + uptoBulkAll spare + 1
  | .agg parts => uptoBulkAll parts + 1
  | .iface _ d => uptoBulk d + 1
  | .map entries => uptoBulkEntries entries + 1
  | .held _ => 1
def uptoBulkAll {H : Type} : List (DataW H) → Nat
  | [] => 0
  | d :: r => uptoBulk d + uptoBulkAll r
def uptoBulkEntries {H : Type} : List (Lit × DataW H) → Nat
  | [] => 0
  | x :: r => uptoBulkEntry x + uptoBulkEntries r
def uptoBulkEntry {H : Type} : Lit × DataW H → Nat
  | (.string bytes, d) => bytes.length + uptoBulk d + 1
  | (_, d) => uptoBulk d + 1
 end
def uptoSmall : (H : Type) → List (DataW H) → Bool := fun _ ds => decide (uptoBulkAll ds ≤ 1048576)
def OpenSpec.upto (s : _root_.Go.ChangeSpec) : _root_.Go.OpenSpec := { _root_.Go.OpenSpec.ofChange s with cond := some uptoSmall }

/-- 'shibbolethlaw18.StrikeTries', WHERE WHAT IT READS IS OF BULK AT MOST 1048576: true; the input reads as it did. -/
def strikeTriesUptoRow : OpenClaim := { program := "ytallpkchhkdanaa", sum := "a593f74b6d538c434cd5ab14d63c38744e0fe9e7b249a8329f3f07a235cd012e", func := "shibboleth/shibbolethlaw18.StrikeTries", spec := "strikeTries", apart := false, narrowed := true }
def StrikeTriesUptoSaid : Prop := strikeTriesUptoRow.holds Try.pinned (OpenSpec.upto strikeTriesSpec)

/-- 'shibbolethlaw18.StrikeOnce', WHERE WHAT IT READS IS OF BULK AT MOST 1048576: true; the input reads as it did. -/
def strikeOnceUptoRow : OpenClaim := { program := "ytallpkchhkdanaa", sum := "a593f74b6d538c434cd5ab14d63c38744e0fe9e7b249a8329f3f07a235cd012e", func := "shibboleth/shibbolethlaw18.StrikeOnce", spec := "strikeOnce", apart := false, narrowed := true }
def StrikeOnceUptoSaid : Prop := strikeOnceUptoRow.holds Try.pinned (OpenSpec.upto strikeOnceSpec)

/-- 'shibbolethlaw18.StrikeFull', WHERE WHAT IT READS IS OF BULK AT MOST 1048576: true; the input reads as it did. -/
def strikeFullUptoRow : OpenClaim := { program := "ytallpkchhkdanaa", sum := "a593f74b6d538c434cd5ab14d63c38744e0fe9e7b249a8329f3f07a235cd012e", func := "shibboleth/shibbolethlaw18.StrikeFull", spec := "strikeFull", apart := false, narrowed := true }
def StrikeFullUptoSaid : Prop := strikeFullUptoRow.holds Try.pinned (OpenSpec.upto strikeFullSpec)

/-- 'shibbolethlaw19.ChoosePicks', WHERE WHAT IT READS IS OF BULK AT MOST 1048576: true; the input reads as it did. -/
def choosePicksUptoRow : OpenClaim := { program := "ytallpkchhkdanaa", sum := "a593f74b6d538c434cd5ab14d63c38744e0fe9e7b249a8329f3f07a235cd012e", func := "shibboleth/shibbolethlaw19.ChoosePicks", spec := "choosePicks", unfollowed := true, recurses := true, apart := false, narrowed := true }
def ChoosePicksUptoSaid : Prop := choosePicksUptoRow.holds Try.pinned (OpenSpec.upto choosePicksSpec)

/-- 'shibbolethlaw19.ChooseVerifies', WHERE WHAT IT READS IS OF BULK AT MOST 1048576: true; the input reads as it did. -/
def chooseVerifiesUptoRow : OpenClaim := { program := "ytallpkchhkdanaa", sum := "a593f74b6d538c434cd5ab14d63c38744e0fe9e7b249a8329f3f07a235cd012e", func := "shibboleth/shibbolethlaw19.ChooseVerifies", spec := "chooseVerifies", unfollowed := true, recurses := true, apart := false, narrowed := true }
def ChooseVerifiesUptoSaid : Prop := chooseVerifiesUptoRow.holds Try.pinned (OpenSpec.upto chooseVerifiesSpec)

/-- 'shibbolethlaw19.ChooseBoth', WHERE WHAT IT READS IS OF BULK AT MOST 1048576: true; the input reads as it did. -/
def chooseBothUptoRow : OpenClaim := { program := "ytallpkchhkdanaa", sum := "a593f74b6d538c434cd5ab14d63c38744e0fe9e7b249a8329f3f07a235cd012e", func := "shibboleth/shibbolethlaw19.ChooseBoth", spec := "chooseBoth", unfollowed := true, recurses := true, apart := false, narrowed := true }
def ChooseBothUptoSaid : Prop := chooseBothUptoRow.holds Try.pinned (OpenSpec.upto chooseBothSpec)

end Rows
end Go.Proofs.Ytallpkchhkdanaa
