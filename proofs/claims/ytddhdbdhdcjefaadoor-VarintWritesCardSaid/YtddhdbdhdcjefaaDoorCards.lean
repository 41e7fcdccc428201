/-
  DERIVED. GIVEN WITH THE SEED: THE CARDS: each row of YtddhdbdhdcjefaaDoorRows.lean that lists a variable, with what it lists TIED to the program's text (the seventh form; the later family's looks); each row that meets fmt, with fmt's text TOLD by the authors' own Lean function (tested against real Go, not proved from fmt's source: count such statements apart). THE CARD IS WHAT COUNTS. Prove the row's statement (the work); the ties are given (YtddhdbdhdcjefaaDoorTie.lean); close each card by the builder's one call (the guide's Derived/Test/ToyasCard.lean, 'card_holds'). Laid BY PROGRAM, IN A SANDBOX (cutbox-door.mjs). By AI agents, Wed Nov 11 2026. No macro, syntax, notation, axiom, sorry.
-/
import Derived.Test.YtddhdbdhdcjefaaDoorRows
import GoSem.ClaimSeven
namespace Go.Proofs.YtddhdbdhdcjefaaDoor
namespace Rows

/-- THE TIED CARD OF 'shibbolethlaw01.VarintWrites'. -/
def varintWritesCard : Claim7 := { stood := { row := varintWritesRow, standIns := [], harness := (true, "d32e7b3345b29da60088ca661824bf01cd225f107099c96b4dff5186de3ab6d9"), looks := false }, kinds := [], alts := [], laidByText := true, laidKinds := [.data, .data], laidTests := true, laidLooks := .later }
def VarintWritesCardSaid : Prop := Claim7.holds Tryd.pinned (.plain (OpenSpec.ofChange varintWritesSpec)) varintWritesCard

/-- THE TIED CARD OF 'shibbolethlaw01.VarintReads'. -/
def varintReadsCard : Claim7 := { stood := { row := varintReadsRow, standIns := [], harness := (true, "d32e7b3345b29da60088ca661824bf01cd225f107099c96b4dff5186de3ab6d9"), looks := false }, kinds := [], alts := [], laidByText := true, laidKinds := [.data, .data], laidTests := true, laidLooks := .later }
def VarintReadsCardSaid : Prop := Claim7.holds Tryd.pinned (.plain (OpenSpec.ofChange varintReadsSpec)) varintReadsCard

/-- THE TIED CARD OF 'shibbolethlaw01.VarintTakes'. -/
def varintTakesCard : Claim7 := { stood := { row := varintTakesRow, standIns := [], harness := (true, "d32e7b3345b29da60088ca661824bf01cd225f107099c96b4dff5186de3ab6d9"), looks := false }, kinds := [], alts := [], laidByText := true, laidKinds := [.data, .data], laidTests := true, laidLooks := .later }
def VarintTakesCardSaid : Prop := Claim7.holds Tryd.pinned (.plain (OpenSpec.ofChange varintTakesSpec)) varintTakesCard

/-- THE TIED CARD OF 'shibbolethlaw01.VarintBack'. -/
def varintBackCard : Claim7 := { stood := { row := varintBackRow, standIns := [], harness := (true, "d32e7b3345b29da60088ca661824bf01cd225f107099c96b4dff5186de3ab6d9"), looks := false }, kinds := [], alts := [], laidByText := true, laidKinds := [.data, .data], laidTests := true, laidLooks := .later }
def VarintBackCardSaid : Prop := Claim7.holds Tryd.pinned (.plain (OpenSpec.ofChange varintBackSpec)) varintBackCard

/-- THE TIED CARD OF 'shibbolethlaw01.VarintShort'. -/
def varintShortCard : Claim7 := { stood := { row := varintShortRow, standIns := [], harness := (true, "d32e7b3345b29da60088ca661824bf01cd225f107099c96b4dff5186de3ab6d9"), looks := false }, kinds := [], alts := [], laidByText := true, laidKinds := [.data, .data], laidTests := true, laidLooks := .later }
def VarintShortCardSaid : Prop := Claim7.holds Tryd.pinned (.plain (OpenSpec.ofChange varintShortSpec)) varintShortCard

/-- THE TIED CARD OF 'shibbolethlaw01.VarintGives'. -/
def varintGivesCard : Claim7 := { stood := { row := varintGivesRow, standIns := [], harness := (true, "d32e7b3345b29da60088ca661824bf01cd225f107099c96b4dff5186de3ab6d9"), looks := false }, kinds := [], alts := [], laidByText := true, laidKinds := [.data, .data], laidTests := true, laidLooks := .later }
def VarintGivesCardSaid : Prop := Claim7.holds Tryd.pinned (.plain (OpenSpec.ofChange varintGivesSpec)) varintGivesCard

/-- THE SECOND FORM's CARD OF 'shibbolethlaw01.VarintWrites'. -/
def varintWritesUptoCard : Claim7 := { stood := { row := varintWritesUptoRow, standIns := [], harness := (true, "d32e7b3345b29da60088ca661824bf01cd225f107099c96b4dff5186de3ab6d9"), looks := false }, kinds := [], alts := [], laidByText := true, laidKinds := [.data, .data], laidTests := true, laidLooks := .later }
def VarintWritesUptoCardSaid : Prop := Claim7.holds Tryd.pinned (.plain (OpenSpec.upto varintWritesSpec)) varintWritesUptoCard

/-- THE SECOND FORM's CARD OF 'shibbolethlaw01.VarintReads'. -/
def varintReadsUptoCard : Claim7 := { stood := { row := varintReadsUptoRow, standIns := [], harness := (true, "d32e7b3345b29da60088ca661824bf01cd225f107099c96b4dff5186de3ab6d9"), looks := false }, kinds := [], alts := [], laidByText := true, laidKinds := [.data, .data], laidTests := true, laidLooks := .later }
def VarintReadsUptoCardSaid : Prop := Claim7.holds Tryd.pinned (.plain (OpenSpec.upto varintReadsSpec)) varintReadsUptoCard

/-- THE SECOND FORM's CARD OF 'shibbolethlaw01.VarintTakes'. -/
def varintTakesUptoCard : Claim7 := { stood := { row := varintTakesUptoRow, standIns := [], harness := (true, "d32e7b3345b29da60088ca661824bf01cd225f107099c96b4dff5186de3ab6d9"), looks := false }, kinds := [], alts := [], laidByText := true, laidKinds := [.data, .data], laidTests := true, laidLooks := .later }
def VarintTakesUptoCardSaid : Prop := Claim7.holds Tryd.pinned (.plain (OpenSpec.upto varintTakesSpec)) varintTakesUptoCard

/-- THE SECOND FORM's CARD OF 'shibbolethlaw01.VarintBack'. -/
def varintBackUptoCard : Claim7 := { stood := { row := varintBackUptoRow, standIns := [], harness := (true, "d32e7b3345b29da60088ca661824bf01cd225f107099c96b4dff5186de3ab6d9"), looks := false }, kinds := [], alts := [], laidByText := true, laidKinds := [.data, .data], laidTests := true, laidLooks := .later }
def VarintBackUptoCardSaid : Prop := Claim7.holds Tryd.pinned (.plain (OpenSpec.upto varintBackSpec)) varintBackUptoCard

/-- THE SECOND FORM's CARD OF 'shibbolethlaw01.VarintShort'. -/
def varintShortUptoCard : Claim7 := { stood := { row := varintShortUptoRow, standIns := [], harness := (true, "d32e7b3345b29da60088ca661824bf01cd225f107099c96b4dff5186de3ab6d9"), looks := false }, kinds := [], alts := [], laidByText := true, laidKinds := [.data, .data], laidTests := true, laidLooks := .later }
def VarintShortUptoCardSaid : Prop := Claim7.holds Tryd.pinned (.plain (OpenSpec.upto varintShortSpec)) varintShortUptoCard

/-- THE SECOND FORM's CARD OF 'shibbolethlaw01.VarintGives'. -/
def varintGivesUptoCard : Claim7 := { stood := { row := varintGivesUptoRow, standIns := [], harness := (true, "d32e7b3345b29da60088ca661824bf01cd225f107099c96b4dff5186de3ab6d9"), looks := false }, kinds := [], alts := [], laidByText := true, laidKinds := [.data, .data], laidTests := true, laidLooks := .later }
def VarintGivesUptoCardSaid : Prop := Claim7.holds Tryd.pinned (.plain (OpenSpec.upto varintGivesSpec)) varintGivesUptoCard
end Rows
end Go.Proofs.YtddhdbdhdcjefaaDoor
