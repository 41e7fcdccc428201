/-
  NARROWER THAN 'FOR EVERY INPUT', by the rows' own cells (each row's printed sentence says how): TokenMints: laid · TokenReads: laid · TokenUnlike: laid · TokenOthers: laid · TicketIssues: laid · TicketReads: laid · TicketOthers: laid · TicketTimes: laid.
  DERIVED. THE GIVEN ROWS OF THIS SEAT. 8 by the template 'for every input the law returns true; each argument reads behind the call as it read before'; 0 by the template 'total and deterministic' (their statements: YtofklfahbhhoiaaDoorTotals.lean).
  GIVEN WITH THE SEED: the statements are not yours to turn. If you find one false, say at which input.
  Laid BY PROGRAM, IN A SANDBOX (cutbox-rows.mjs): the forced cells as the released guide's own fill.sh prints them over the translation d99af7a4790f771a… (all of the seat's roots in one cut). By AI agents, Wed Nov 11 2026. No macro, syntax, notation, axiom, sorry.
-/
import Derived.Test.YtofklfahbhhoiaaDoorChecked
import GoSem.Claim
import GoSem.ClaimJoined
import GoSem.ClaimMapViews
import Derived.JoinedTies
import Derived.KernelRfl
namespace Go.Proofs.YtofklfahbhhoiaaDoor
/- THE CELL 'sum', in the pinned program and in every row, IS THE sha256 OF THE DUMP (.gsa) THAT YtofklfahbhhoiaaDoorProg.lean LOADS. Nothing in Lean hashes anything: it is a label: what it is worth is what the hold of that sum in a sandbox is worth. -/
noncomputable def Tryd.pinned : Pinned := { name := "ytofklfahbhhoiaadoor", sum := "d99af7a4790f771a9a12c9cc88f24ae21d4c64d57d92d63a4369120047b66bad", checked := Tryd.checked }
namespace Rows
def none {H : Type} : Left H := { results := [], args := [] }

/- WHAT THE LISTED PACKAGE-LEVEL VARIABLES READ AS WHEN THE CALL BEGINS. Each datum BY PROGRAM (the guide's laid-datum.mjs) off the statement by which the dump's own 'gosem.cut.vars' lays the variable. In a bare row this is a premise. The card (YtofklfahbhhoiaaDoorCards.lean) ties it to the program's text. -/
def laid_math_bits_deBruijn32tab {H : Type} : DataW H := .agg [.lit (.int .u8 0), .lit (.int .u8 1), .lit (.int .u8 28), .lit (.int .u8 2), .lit (.int .u8 29), .lit (.int .u8 14), .lit (.int .u8 24), .lit (.int .u8 3), .lit (.int .u8 30), .lit (.int .u8 22), .lit (.int .u8 20), .lit (.int .u8 15), .lit (.int .u8 25), .lit (.int .u8 17), .lit (.int .u8 4), .lit (.int .u8 8), .lit (.int .u8 31), .lit (.int .u8 27), .lit (.int .u8 13), .lit (.int .u8 23), .lit (.int .u8 21), .lit (.int .u8 19), .lit (.int .u8 16), .lit (.int .u8 7), .lit (.int .u8 26), .lit (.int .u8 12), .lit (.int .u8 18), .lit (.int .u8 6), .lit (.int .u8 11), .lit (.int .u8 5), .lit (.int .u8 10), .lit (.int .u8 9)]
def laid_math_bits_deBruijn64tab {H : Type} : DataW H := .agg [.lit (.int .u8 0), .lit (.int .u8 1), .lit (.int .u8 56), .lit (.int .u8 2), .lit (.int .u8 57), .lit (.int .u8 49), .lit (.int .u8 28), .lit (.int .u8 3), .lit (.int .u8 61), .lit (.int .u8 58), .lit (.int .u8 42), .lit (.int .u8 50), .lit (.int .u8 38), .lit (.int .u8 29), .lit (.int .u8 17), .lit (.int .u8 4), .lit (.int .u8 62), .lit (.int .u8 47), .lit (.int .u8 59), .lit (.int .u8 36), .lit (.int .u8 45), .lit (.int .u8 43), .lit (.int .u8 51), .lit (.int .u8 22), .lit (.int .u8 53), .lit (.int .u8 39), .lit (.int .u8 33), .lit (.int .u8 30), .lit (.int .u8 24), .lit (.int .u8 18), .lit (.int .u8 12), .lit (.int .u8 5), .lit (.int .u8 63), .lit (.int .u8 55), .lit (.int .u8 48), .lit (.int .u8 27), .lit (.int .u8 60), .lit (.int .u8 41), .lit (.int .u8 37), .lit (.int .u8 16), .lit (.int .u8 46), .lit (.int .u8 35), .lit (.int .u8 44), .lit (.int .u8 21), .lit (.int .u8 52), .lit (.int .u8 32), .lit (.int .u8 23), .lit (.int .u8 11), .lit (.int .u8 54), .lit (.int .u8 26), .lit (.int .u8 40), .lit (.int .u8 15), .lit (.int .u8 34), .lit (.int .u8 20), .lit (.int .u8 31), .lit (.int .u8 10), .lit (.int .u8 25), .lit (.int .u8 14), .lit (.int .u8 19), .lit (.int .u8 9), .lit (.int .u8 13), .lit (.int .u8 8), .lit (.int .u8 7), .lit (.int .u8 6)]

/-- 'shibbolethlaw16.TokenMints': WHATEVER THE INPUT: true; the input reads as it did. -/
def tokenMintsSpec : ChangeSpec := { name := "tokenMints", fn := fun _ => fun
  | [d1, d2] => { results := [.lit (.bool true)], args := [d1, d2] }
  | _ => none }
def tokenMintsRow : OpenClaim := { program := "ytofklfahbhhoiaadoor", sum := "d99af7a4790f771a9a12c9cc88f24ae21d4c64d57d92d63a4369120047b66bad", func := "shibboleth/shibbolethlaw16.TokenMints", spec := "tokenMints", unfollowed := true, recurses := true, named := ["math/bits.deBruijn32tab", "math/bits.deBruijn64tab"], plainKeys := false, apart := false, laid := [("math/bits.deBruijn32tab", laid_math_bits_deBruijn32tab), ("math/bits.deBruijn64tab", laid_math_bits_deBruijn64tab)] }
def TokenMintsSaid : Prop := tokenMintsRow.holds Tryd.pinned (OpenSpec.ofChange tokenMintsSpec)

/-- ITS FALSE NEIGHBOUR: 'it returns false'. Refute it at one input. -/
def tokenMintsWrong : ChangeSpec := { name := "tokenMints", fn := fun _ => fun
  | [d1, d2] => { results := [.lit (.bool false)], args := [d1, d2] }
  | _ => none }
def TokenMintsWrongFalsely : Prop := tokenMintsRow.holds Tryd.pinned (OpenSpec.ofChange tokenMintsWrong)

/-- 'shibbolethlaw16.TokenReads': WHATEVER THE INPUT: true; the input reads as it did. -/
def tokenReadsSpec : ChangeSpec := { name := "tokenReads", fn := fun _ => fun
  | [d] => { results := [.lit (.bool true)], args := [d] }
  | _ => none }
def tokenReadsRow : OpenClaim := { program := "ytofklfahbhhoiaadoor", sum := "d99af7a4790f771a9a12c9cc88f24ae21d4c64d57d92d63a4369120047b66bad", func := "shibboleth/shibbolethlaw16.TokenReads", spec := "tokenReads", unfollowed := true, recurses := true, named := ["math/bits.deBruijn32tab", "math/bits.deBruijn64tab"], plainKeys := false, apart := false, laid := [("math/bits.deBruijn32tab", laid_math_bits_deBruijn32tab), ("math/bits.deBruijn64tab", laid_math_bits_deBruijn64tab)] }
def TokenReadsSaid : Prop := tokenReadsRow.holds Tryd.pinned (OpenSpec.ofChange tokenReadsSpec)

/-- ITS FALSE NEIGHBOUR: 'it returns false'. Refute it at one input. -/
def tokenReadsWrong : ChangeSpec := { name := "tokenReads", fn := fun _ => fun
  | [d] => { results := [.lit (.bool false)], args := [d] }
  | _ => none }
def TokenReadsWrongFalsely : Prop := tokenReadsRow.holds Tryd.pinned (OpenSpec.ofChange tokenReadsWrong)

/-- 'shibbolethlaw16.TokenUnlike': WHATEVER THE INPUT: true; the input reads as it did. -/
def tokenUnlikeSpec : ChangeSpec := { name := "tokenUnlike", fn := fun _ => fun
  | [d1, d2] => { results := [.lit (.bool true)], args := [d1, d2] }
  | _ => none }
def tokenUnlikeRow : OpenClaim := { program := "ytofklfahbhhoiaadoor", sum := "d99af7a4790f771a9a12c9cc88f24ae21d4c64d57d92d63a4369120047b66bad", func := "shibboleth/shibbolethlaw16.TokenUnlike", spec := "tokenUnlike", unfollowed := true, recurses := true, named := ["math/bits.deBruijn32tab", "math/bits.deBruijn64tab"], plainKeys := false, apart := false, laid := [("math/bits.deBruijn32tab", laid_math_bits_deBruijn32tab), ("math/bits.deBruijn64tab", laid_math_bits_deBruijn64tab)] }
def TokenUnlikeSaid : Prop := tokenUnlikeRow.holds Tryd.pinned (OpenSpec.ofChange tokenUnlikeSpec)

/-- ITS FALSE NEIGHBOUR: 'it returns false'. Refute it at one input. -/
def tokenUnlikeWrong : ChangeSpec := { name := "tokenUnlike", fn := fun _ => fun
  | [d1, d2] => { results := [.lit (.bool false)], args := [d1, d2] }
  | _ => none }
def TokenUnlikeWrongFalsely : Prop := tokenUnlikeRow.holds Tryd.pinned (OpenSpec.ofChange tokenUnlikeWrong)

/-- 'shibbolethlaw16.TokenOthers': WHATEVER THE INPUT: true; the input reads as it did. -/
def tokenOthersSpec : ChangeSpec := { name := "tokenOthers", fn := fun _ => fun
  | [d1, d2] => { results := [.lit (.bool true)], args := [d1, d2] }
  | _ => none }
def tokenOthersRow : OpenClaim := { program := "ytofklfahbhhoiaadoor", sum := "d99af7a4790f771a9a12c9cc88f24ae21d4c64d57d92d63a4369120047b66bad", func := "shibboleth/shibbolethlaw16.TokenOthers", spec := "tokenOthers", unfollowed := true, recurses := true, named := ["math/bits.deBruijn32tab", "math/bits.deBruijn64tab"], plainKeys := false, apart := false, laid := [("math/bits.deBruijn32tab", laid_math_bits_deBruijn32tab), ("math/bits.deBruijn64tab", laid_math_bits_deBruijn64tab)] }
def TokenOthersSaid : Prop := tokenOthersRow.holds Tryd.pinned (OpenSpec.ofChange tokenOthersSpec)

/-- ITS FALSE NEIGHBOUR: 'it returns false'. Refute it at one input. -/
def tokenOthersWrong : ChangeSpec := { name := "tokenOthers", fn := fun _ => fun
  | [d1, d2] => { results := [.lit (.bool false)], args := [d1, d2] }
  | _ => none }
def TokenOthersWrongFalsely : Prop := tokenOthersRow.holds Tryd.pinned (OpenSpec.ofChange tokenOthersWrong)

/-- 'shibbolethlaw17.TicketIssues': WHATEVER THE INPUT: true; the input reads as it did. -/
def ticketIssuesSpec : ChangeSpec := { name := "ticketIssues", fn := fun _ => fun
  | [d1, d2] => { results := [.lit (.bool true)], args := [d1, d2] }
  | _ => none }
def ticketIssuesRow : OpenClaim := { program := "ytofklfahbhhoiaadoor", sum := "d99af7a4790f771a9a12c9cc88f24ae21d4c64d57d92d63a4369120047b66bad", func := "shibboleth/shibbolethlaw17.TicketIssues", spec := "ticketIssues", named := ["math/bits.deBruijn32tab", "math/bits.deBruijn64tab"], plainKeys := false, apart := false, laid := [("math/bits.deBruijn32tab", laid_math_bits_deBruijn32tab), ("math/bits.deBruijn64tab", laid_math_bits_deBruijn64tab)] }
def TicketIssuesSaid : Prop := ticketIssuesRow.holds Tryd.pinned (OpenSpec.ofChange ticketIssuesSpec)

/-- ITS FALSE NEIGHBOUR: 'it returns false'. Refute it at one input. -/
def ticketIssuesWrong : ChangeSpec := { name := "ticketIssues", fn := fun _ => fun
  | [d1, d2] => { results := [.lit (.bool false)], args := [d1, d2] }
  | _ => none }
def TicketIssuesWrongFalsely : Prop := ticketIssuesRow.holds Tryd.pinned (OpenSpec.ofChange ticketIssuesWrong)

/-- 'shibbolethlaw17.TicketReads': WHATEVER THE INPUT: true; the input reads as it did. -/
def ticketReadsSpec : ChangeSpec := { name := "ticketReads", fn := fun _ => fun
  | [d] => { results := [.lit (.bool true)], args := [d] }
  | _ => none }
def ticketReadsRow : OpenClaim := { program := "ytofklfahbhhoiaadoor", sum := "d99af7a4790f771a9a12c9cc88f24ae21d4c64d57d92d63a4369120047b66bad", func := "shibboleth/shibbolethlaw17.TicketReads", spec := "ticketReads", named := ["math/bits.deBruijn32tab", "math/bits.deBruijn64tab"], plainKeys := false, apart := false, laid := [("math/bits.deBruijn32tab", laid_math_bits_deBruijn32tab), ("math/bits.deBruijn64tab", laid_math_bits_deBruijn64tab)] }
def TicketReadsSaid : Prop := ticketReadsRow.holds Tryd.pinned (OpenSpec.ofChange ticketReadsSpec)

/-- ITS FALSE NEIGHBOUR: 'it returns false'. Refute it at one input. -/
def ticketReadsWrong : ChangeSpec := { name := "ticketReads", fn := fun _ => fun
  | [d] => { results := [.lit (.bool false)], args := [d] }
  | _ => none }
def TicketReadsWrongFalsely : Prop := ticketReadsRow.holds Tryd.pinned (OpenSpec.ofChange ticketReadsWrong)

/-- 'shibbolethlaw17.TicketOthers': WHATEVER THE INPUT: true; the input reads as it did. -/
def ticketOthersSpec : ChangeSpec := { name := "ticketOthers", fn := fun _ => fun
  | [d1, d2] => { results := [.lit (.bool true)], args := [d1, d2] }
  | _ => none }
def ticketOthersRow : OpenClaim := { program := "ytofklfahbhhoiaadoor", sum := "d99af7a4790f771a9a12c9cc88f24ae21d4c64d57d92d63a4369120047b66bad", func := "shibboleth/shibbolethlaw17.TicketOthers", spec := "ticketOthers", named := ["math/bits.deBruijn32tab", "math/bits.deBruijn64tab"], plainKeys := false, apart := false, laid := [("math/bits.deBruijn32tab", laid_math_bits_deBruijn32tab), ("math/bits.deBruijn64tab", laid_math_bits_deBruijn64tab)] }
def TicketOthersSaid : Prop := ticketOthersRow.holds Tryd.pinned (OpenSpec.ofChange ticketOthersSpec)

/-- ITS FALSE NEIGHBOUR: 'it returns false'. Refute it at one input. -/
def ticketOthersWrong : ChangeSpec := { name := "ticketOthers", fn := fun _ => fun
  | [d1, d2] => { results := [.lit (.bool false)], args := [d1, d2] }
  | _ => none }
def TicketOthersWrongFalsely : Prop := ticketOthersRow.holds Tryd.pinned (OpenSpec.ofChange ticketOthersWrong)

/-- 'shibbolethlaw17.TicketTimes': WHATEVER THE INPUT: true; the input reads as it did. -/
def ticketTimesSpec : ChangeSpec := { name := "ticketTimes", fn := fun _ => fun
  | [d1, d2, d3] => { results := [.lit (.bool true)], args := [d1, d2, d3] }
  | _ => none }
def ticketTimesRow : OpenClaim := { program := "ytofklfahbhhoiaadoor", sum := "d99af7a4790f771a9a12c9cc88f24ae21d4c64d57d92d63a4369120047b66bad", func := "shibboleth/shibbolethlaw17.TicketTimes", spec := "ticketTimes", named := ["math/bits.deBruijn32tab", "math/bits.deBruijn64tab"], plainKeys := false, apart := false, laid := [("math/bits.deBruijn32tab", laid_math_bits_deBruijn32tab), ("math/bits.deBruijn64tab", laid_math_bits_deBruijn64tab)] }
def TicketTimesSaid : Prop := ticketTimesRow.holds Tryd.pinned (OpenSpec.ofChange ticketTimesSpec)

/-- ITS FALSE NEIGHBOUR: 'it returns false'. Refute it at one input. -/
def ticketTimesWrong : ChangeSpec := { name := "ticketTimes", fn := fun _ => fun
  | [d1, d2, d3] => { results := [.lit (.bool false)], args := [d1, d2, d3] }
  | _ => none }
def TicketTimesWrongFalsely : Prop := ticketTimesRow.holds Tryd.pinned (OpenSpec.ofChange ticketTimesWrong)

/- THE SECOND FORM. 'bulk': how many values and letters a reading holds, each counted each time it is reached (what is shared counts as often as it is met; a slice's spare places count too). A statement '..UptoSaid' is the law's where the arguments, and the package variables that the reading takes, are together of bulk at most 1048576: NARROWER than '..Said'. Prove '..Said' where nothing that the law and all that it calls make is longer than what came in: it says more and counts as full. Else prove '..UptoSaid'. A law counts once. -/
mutual
def uptoBulk {H : Type} : DataW H → Nat
  | .lit (.string bytes) => bytes.length + 1
  | .lit _ => 1
  | .nil => 1
  | .ptr d => uptoBulk d + 1
  | .slice elems spare => uptoBulkAll elems + uptoBulkAll spare + 1
  | .agg parts => uptoBulkAll parts + 1
  | .iface _ d => uptoBulk d + 1
  | .map entries => uptoBulkEntries entries + 1
  | .held _ => 1
def uptoBulkAll {H : Type} : List (DataW H) → Nat
  | [] => 0
  | d :: r => uptoBulk d + uptoBulkAll r
def uptoBulkEntries {H : Type} : List (Lit × DataW H) → Nat
  | [] => 0
  | x :: r => uptoBulkEntry x + uptoBulkEntries r
def uptoBulkEntry {H : Type} : Lit × DataW H → Nat
  | (.string bytes, d) => bytes.length + uptoBulk d + 1
  | (_, d) => uptoBulk d + 1
 end
def uptoSmall : (H : Type) → List (DataW H) → Bool := fun _ ds => decide (uptoBulkAll ds ≤ 1048576)
def OpenSpec.upto (s : _root_.Go.ChangeSpec) : _root_.Go.OpenSpec := { _root_.Go.OpenSpec.ofChange s with cond := some uptoSmall }

/-- 'shibbolethlaw16.TokenMints', WHERE WHAT IT READS IS OF BULK AT MOST 1048576: true; the input reads as it did. -/
def tokenMintsUptoRow : OpenClaim := { program := "ytofklfahbhhoiaadoor", sum := "d99af7a4790f771a9a12c9cc88f24ae21d4c64d57d92d63a4369120047b66bad", func := "shibboleth/shibbolethlaw16.TokenMints", spec := "tokenMints", unfollowed := true, recurses := true, named := ["math/bits.deBruijn32tab", "math/bits.deBruijn64tab"], plainKeys := false, apart := false, laid := [("math/bits.deBruijn32tab", laid_math_bits_deBruijn32tab), ("math/bits.deBruijn64tab", laid_math_bits_deBruijn64tab)], narrowed := true }
def TokenMintsUptoSaid : Prop := tokenMintsUptoRow.holds Tryd.pinned (OpenSpec.upto tokenMintsSpec)

/-- 'shibbolethlaw16.TokenReads', WHERE WHAT IT READS IS OF BULK AT MOST 1048576: true; the input reads as it did. -/
def tokenReadsUptoRow : OpenClaim := { program := "ytofklfahbhhoiaadoor", sum := "d99af7a4790f771a9a12c9cc88f24ae21d4c64d57d92d63a4369120047b66bad", func := "shibboleth/shibbolethlaw16.TokenReads", spec := "tokenReads", unfollowed := true, recurses := true, named := ["math/bits.deBruijn32tab", "math/bits.deBruijn64tab"], plainKeys := false, apart := false, laid := [("math/bits.deBruijn32tab", laid_math_bits_deBruijn32tab), ("math/bits.deBruijn64tab", laid_math_bits_deBruijn64tab)], narrowed := true }
def TokenReadsUptoSaid : Prop := tokenReadsUptoRow.holds Tryd.pinned (OpenSpec.upto tokenReadsSpec)

/-- 'shibbolethlaw16.TokenUnlike', WHERE WHAT IT READS IS OF BULK AT MOST 1048576: true; the input reads as it did. -/
def tokenUnlikeUptoRow : OpenClaim := { program := "ytofklfahbhhoiaadoor", sum := "d99af7a4790f771a9a12c9cc88f24ae21d4c64d57d92d63a4369120047b66bad", func := "shibboleth/shibbolethlaw16.TokenUnlike", spec := "tokenUnlike", unfollowed := true, recurses := true, named := ["math/bits.deBruijn32tab", "math/bits.deBruijn64tab"], plainKeys := false, apart := false, laid := [("math/bits.deBruijn32tab", laid_math_bits_deBruijn32tab), ("math/bits.deBruijn64tab", laid_math_bits_deBruijn64tab)], narrowed := true }
def TokenUnlikeUptoSaid : Prop := tokenUnlikeUptoRow.holds Tryd.pinned (OpenSpec.upto tokenUnlikeSpec)

/-- 'shibbolethlaw16.TokenOthers', WHERE WHAT IT READS IS OF BULK AT MOST 1048576: true; the input reads as it did. -/
def tokenOthersUptoRow : OpenClaim := { program := "ytofklfahbhhoiaadoor", sum := "d99af7a4790f771a9a12c9cc88f24ae21d4c64d57d92d63a4369120047b66bad", func := "shibboleth/shibbolethlaw16.TokenOthers", spec := "tokenOthers", unfollowed := true, recurses := true, named := ["math/bits.deBruijn32tab", "math/bits.deBruijn64tab"], plainKeys := false, apart := false, laid := [("math/bits.deBruijn32tab", laid_math_bits_deBruijn32tab), ("math/bits.deBruijn64tab", laid_math_bits_deBruijn64tab)], narrowed := true }
def TokenOthersUptoSaid : Prop := tokenOthersUptoRow.holds Tryd.pinned (OpenSpec.upto tokenOthersSpec)

/-- 'shibbolethlaw17.TicketIssues', WHERE WHAT IT READS IS OF BULK AT MOST 1048576: true; the input reads as it did. -/
def ticketIssuesUptoRow : OpenClaim := { program := "ytofklfahbhhoiaadoor", sum := "d99af7a4790f771a9a12c9cc88f24ae21d4c64d57d92d63a4369120047b66bad", func := "shibboleth/shibbolethlaw17.TicketIssues", spec := "ticketIssues", named := ["math/bits.deBruijn32tab", "math/bits.deBruijn64tab"], plainKeys := false, apart := false, laid := [("math/bits.deBruijn32tab", laid_math_bits_deBruijn32tab), ("math/bits.deBruijn64tab", laid_math_bits_deBruijn64tab)], narrowed := true }
def TicketIssuesUptoSaid : Prop := ticketIssuesUptoRow.holds Tryd.pinned (OpenSpec.upto ticketIssuesSpec)

/-- 'shibbolethlaw17.TicketReads', WHERE WHAT IT READS IS OF BULK AT MOST 1048576: true; the input reads as it did. -/
def ticketReadsUptoRow : OpenClaim := { program := "ytofklfahbhhoiaadoor", sum := "d99af7a4790f771a9a12c9cc88f24ae21d4c64d57d92d63a4369120047b66bad", func := "shibboleth/shibbolethlaw17.TicketReads", spec := "ticketReads", named := ["math/bits.deBruijn32tab", "math/bits.deBruijn64tab"], plainKeys := false, apart := false, laid := [("math/bits.deBruijn32tab", laid_math_bits_deBruijn32tab), ("math/bits.deBruijn64tab", laid_math_bits_deBruijn64tab)], narrowed := true }
def TicketReadsUptoSaid : Prop := ticketReadsUptoRow.holds Tryd.pinned (OpenSpec.upto ticketReadsSpec)

/-- 'shibbolethlaw17.TicketOthers', WHERE WHAT IT READS IS OF BULK AT MOST 1048576: true; the input reads as it did. -/
def ticketOthersUptoRow : OpenClaim := { program := "ytofklfahbhhoiaadoor", sum := "d99af7a4790f771a9a12c9cc88f24ae21d4c64d57d92d63a4369120047b66bad", func := "shibboleth/shibbolethlaw17.TicketOthers", spec := "ticketOthers", named := ["math/bits.deBruijn32tab", "math/bits.deBruijn64tab"], plainKeys := false, apart := false, laid := [("math/bits.deBruijn32tab", laid_math_bits_deBruijn32tab), ("math/bits.deBruijn64tab", laid_math_bits_deBruijn64tab)], narrowed := true }
def TicketOthersUptoSaid : Prop := ticketOthersUptoRow.holds Tryd.pinned (OpenSpec.upto ticketOthersSpec)

/-- 'shibbolethlaw17.TicketTimes', WHERE WHAT IT READS IS OF BULK AT MOST 1048576: true; the input reads as it did. -/
def ticketTimesUptoRow : OpenClaim := { program := "ytofklfahbhhoiaadoor", sum := "d99af7a4790f771a9a12c9cc88f24ae21d4c64d57d92d63a4369120047b66bad", func := "shibboleth/shibbolethlaw17.TicketTimes", spec := "ticketTimes", named := ["math/bits.deBruijn32tab", "math/bits.deBruijn64tab"], plainKeys := false, apart := false, laid := [("math/bits.deBruijn32tab", laid_math_bits_deBruijn32tab), ("math/bits.deBruijn64tab", laid_math_bits_deBruijn64tab)], narrowed := true }
def TicketTimesUptoSaid : Prop := ticketTimesUptoRow.holds Tryd.pinned (OpenSpec.upto ticketTimesSpec)

end Rows
end Go.Proofs.YtofklfahbhhoiaaDoor
