/-
  DERIVED. GIVEN WITH THE SEED: THE CARDS: each row of YtefcjggmlhoebaaDoorRows.lean that lists a variable, with what it lists TIED to the program's text (the seventh form; the later family's looks); each row that meets fmt, with fmt's text TOLD by the authors' own Lean function (tested against real Go, not proved from fmt's source: count such statements apart). THE CARD IS WHAT COUNTS. Prove the row's statement (the work); the ties are given (YtefcjggmlhoebaaDoorTie.lean); close each card by the builder's one call (the guide's Derived/Test/ToyasCard.lean, 'card_holds'). Laid BY PROGRAM, IN A SANDBOX (cutbox-door.mjs). By AI agents, Wed Nov 11 2026. No macro, syntax, notation, axiom, sorry.
-/
import Derived.Test.YtefcjggmlhoebaaDoorRows
import GoSem.ClaimSeven
namespace Go.Proofs.YtefcjggmlhoebaaDoor
namespace Rows

/-- THE TIED CARD OF 'shibbolethlaw14.HelloWrites'. -/
def helloWritesCard : Claim7 := { stood := { row := helloWritesRow, standIns := [], harness := (true, "abbb697c05027e6cb6db572219f8df10110ad013005ceac9366e7d84555a433d"), looks := true }, kinds := [], alts := [], laidByText := true, laidKinds := [.data, .data], laidTests := true, laidLooks := .later }
def HelloWritesCardSaid : Prop := Claim7.holds Tryd.pinned (.plain (OpenSpec.ofChange helloWritesSpec)) helloWritesCard

/-- THE TIED CARD OF 'shibbolethlaw14.HelloReads'. -/
def helloReadsCard : Claim7 := { stood := { row := helloReadsRow, standIns := [], harness := (true, "abbb697c05027e6cb6db572219f8df10110ad013005ceac9366e7d84555a433d"), looks := true }, kinds := [], alts := [], laidByText := true, laidKinds := [.data, .data], laidTests := true, laidLooks := .later }
def HelloReadsCardSaid : Prop := Claim7.holds Tryd.pinned (.plain (OpenSpec.ofChange helloReadsSpec)) helloReadsCard

/-- THE TIED CARD OF 'shibbolethlaw14.HelloBack'. -/
def helloBackCard : Claim7 := { stood := { row := helloBackRow, standIns := [], harness := (true, "abbb697c05027e6cb6db572219f8df10110ad013005ceac9366e7d84555a433d"), looks := true }, kinds := [], alts := [], laidByText := true, laidKinds := [.data, .data], laidTests := true, laidLooks := .later }
def HelloBackCardSaid : Prop := Claim7.holds Tryd.pinned (.plain (OpenSpec.ofChange helloBackSpec)) helloBackCard

/-- THE TIED CARD OF 'shibbolethlaw14.HelloAgain'. -/
def helloAgainCard : Claim7 := { stood := { row := helloAgainRow, standIns := [], harness := (true, "abbb697c05027e6cb6db572219f8df10110ad013005ceac9366e7d84555a433d"), looks := true }, kinds := [], alts := [], laidByText := true, laidKinds := [.data, .data], laidTests := true, laidLooks := .later }
def HelloAgainCardSaid : Prop := Claim7.holds Tryd.pinned (.plain (OpenSpec.ofChange helloAgainSpec)) helloAgainCard

/-- THE TIED CARD OF 'shibbolethlaw14.HelloCut'. -/
def helloCutCard : Claim7 := { stood := { row := helloCutRow, standIns := [], harness := (true, "abbb697c05027e6cb6db572219f8df10110ad013005ceac9366e7d84555a433d"), looks := true }, kinds := [], alts := [], laidByText := true, laidKinds := [.data, .data], laidTests := true, laidLooks := .later }
def HelloCutCardSaid : Prop := Claim7.holds Tryd.pinned (.plain (OpenSpec.ofChange helloCutSpec)) helloCutCard

/-- THE SECOND FORM's CARD OF 'shibbolethlaw14.HelloWrites'. -/
def helloWritesUptoCard : Claim7 := { stood := { row := helloWritesUptoRow, standIns := [], harness := (true, "abbb697c05027e6cb6db572219f8df10110ad013005ceac9366e7d84555a433d"), looks := true }, kinds := [], alts := [], laidByText := true, laidKinds := [.data, .data], laidTests := true, laidLooks := .later }
def HelloWritesUptoCardSaid : Prop := Claim7.holds Tryd.pinned (.plain (OpenSpec.upto helloWritesSpec)) helloWritesUptoCard

/-- THE SECOND FORM's CARD OF 'shibbolethlaw14.HelloReads'. -/
def helloReadsUptoCard : Claim7 := { stood := { row := helloReadsUptoRow, standIns := [], harness := (true, "abbb697c05027e6cb6db572219f8df10110ad013005ceac9366e7d84555a433d"), looks := true }, kinds := [], alts := [], laidByText := true, laidKinds := [.data, .data], laidTests := true, laidLooks := .later }
def HelloReadsUptoCardSaid : Prop := Claim7.holds Tryd.pinned (.plain (OpenSpec.upto helloReadsSpec)) helloReadsUptoCard

/-- THE SECOND FORM's CARD OF 'shibbolethlaw14.HelloBack'. -/
def helloBackUptoCard : Claim7 := { stood := { row := helloBackUptoRow, standIns := [], harness := (true, "abbb697c05027e6cb6db572219f8df10110ad013005ceac9366e7d84555a433d"), looks := true }, kinds := [], alts := [], laidByText := true, laidKinds := [.data, .data], laidTests := true, laidLooks := .later }
def HelloBackUptoCardSaid : Prop := Claim7.holds Tryd.pinned (.plain (OpenSpec.upto helloBackSpec)) helloBackUptoCard

/-- THE SECOND FORM's CARD OF 'shibbolethlaw14.HelloAgain'. -/
def helloAgainUptoCard : Claim7 := { stood := { row := helloAgainUptoRow, standIns := [], harness := (true, "abbb697c05027e6cb6db572219f8df10110ad013005ceac9366e7d84555a433d"), looks := true }, kinds := [], alts := [], laidByText := true, laidKinds := [.data, .data], laidTests := true, laidLooks := .later }
def HelloAgainUptoCardSaid : Prop := Claim7.holds Tryd.pinned (.plain (OpenSpec.upto helloAgainSpec)) helloAgainUptoCard

/-- THE SECOND FORM's CARD OF 'shibbolethlaw14.HelloCut'. -/
def helloCutUptoCard : Claim7 := { stood := { row := helloCutUptoRow, standIns := [], harness := (true, "abbb697c05027e6cb6db572219f8df10110ad013005ceac9366e7d84555a433d"), looks := true }, kinds := [], alts := [], laidByText := true, laidKinds := [.data, .data], laidTests := true, laidLooks := .later }
def HelloCutUptoCardSaid : Prop := Claim7.holds Tryd.pinned (.plain (OpenSpec.upto helloCutSpec)) helloCutUptoCard
end Rows
end Go.Proofs.YtefcjggmlhoebaaDoor
