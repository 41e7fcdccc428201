/-
  DERIVED. GIVEN WITH THE SEED: THE CARDS: each row of YtmglhlfjddgllaaDoorRows.lean that lists a variable, with what it lists TIED to the program's text (the seventh form; the later family's looks); each row that meets fmt, with fmt's text TOLD by the authors' own Lean function (tested against real Go, not proved from fmt's source: count such statements apart). THE CARD IS WHAT COUNTS. Prove the row's statement (the work); the ties are given (YtmglhlfjddgllaaDoorTie.lean); close each card by the builder's one call (the guide's Derived/Test/ToyasCard.lean, 'card_holds'). Laid BY PROGRAM, IN A SANDBOX (cutbox-door.mjs). By AI agents, Wed Nov 11 2026. No macro, syntax, notation, axiom, sorry.
-/
import Derived.Test.YtmglhlfjddgllaaDoorRows
import GoSem.ClaimSeven
namespace Go.Proofs.YtmglhlfjddgllaaDoor
namespace Rows

/-- THE TIED CARD OF 'shibbolethlaw07.ParamsWrite'. -/
def paramsWriteCard : Claim7 := { stood := { row := paramsWriteRow, standIns := [], harness := (true, "ee8699f8fd6b548e86d6d158f9090b3bdb76e1cda20569fc87025a8259ce30fd"), looks := true }, kinds := [], alts := [], laidByText := true, laidKinds := [.data, .data], laidTests := true, laidLooks := .later }
def ParamsWriteCardSaid : Prop := Claim7.holds Tryd.pinned (.plain (OpenSpec.ofChange paramsWriteSpec)) paramsWriteCard

/-- THE TIED CARD OF 'shibbolethlaw07.ParamsRead'. -/
def paramsReadCard : Claim7 := { stood := { row := paramsReadRow, standIns := [], harness := (true, "ee8699f8fd6b548e86d6d158f9090b3bdb76e1cda20569fc87025a8259ce30fd"), looks := true }, kinds := [], alts := [], laidByText := true, laidKinds := [.data, .data], laidTests := true, laidLooks := .later }
def ParamsReadCardSaid : Prop := Claim7.holds Tryd.pinned (.plain (OpenSpec.ofChange paramsReadSpec)) paramsReadCard

/-- THE TIED CARD OF 'shibbolethlaw07.ParamsBack'. -/
def paramsBackCard : Claim7 := { stood := { row := paramsBackRow, standIns := [], harness := (true, "ee8699f8fd6b548e86d6d158f9090b3bdb76e1cda20569fc87025a8259ce30fd"), looks := true }, kinds := [], alts := [], laidByText := true, laidKinds := [.data, .data], laidTests := true, laidLooks := .later }
def ParamsBackCardSaid : Prop := Claim7.holds Tryd.pinned (.plain (OpenSpec.ofChange paramsBackSpec)) paramsBackCard

/-- THE TIED CARD OF 'shibbolethlaw07.ParamsAgain'. -/
def paramsAgainCard : Claim7 := { stood := { row := paramsAgainRow, standIns := [], harness := (true, "ee8699f8fd6b548e86d6d158f9090b3bdb76e1cda20569fc87025a8259ce30fd"), looks := true }, kinds := [], alts := [], laidByText := true, laidKinds := [.data, .data], laidTests := true, laidLooks := .later }
def ParamsAgainCardSaid : Prop := Claim7.holds Tryd.pinned (.plain (OpenSpec.ofChange paramsAgainSpec)) paramsAgainCard

/-- THE TIED CARD OF 'shibbolethlaw07.ParamsSame'. -/
def paramsSameCard : Claim7 := { stood := { row := paramsSameRow, standIns := [], harness := (true, "ee8699f8fd6b548e86d6d158f9090b3bdb76e1cda20569fc87025a8259ce30fd"), looks := true }, kinds := [], alts := [], laidByText := true, laidKinds := [.data, .data], laidTests := true, laidLooks := .later }
def ParamsSameCardSaid : Prop := Claim7.holds Tryd.pinned (.plain (OpenSpec.ofChange paramsSameSpec)) paramsSameCard

/-- THE SECOND FORM's CARD OF 'shibbolethlaw07.ParamsWrite'. -/
def paramsWriteUptoCard : Claim7 := { stood := { row := paramsWriteUptoRow, standIns := [], harness := (true, "ee8699f8fd6b548e86d6d158f9090b3bdb76e1cda20569fc87025a8259ce30fd"), looks := true }, kinds := [], alts := [], laidByText := true, laidKinds := [.data, .data], laidTests := true, laidLooks := .later }
def ParamsWriteUptoCardSaid : Prop := Claim7.holds Tryd.pinned (.plain (OpenSpec.upto paramsWriteSpec)) paramsWriteUptoCard

/-- THE SECOND FORM's CARD OF 'shibbolethlaw07.ParamsRead'. -/
def paramsReadUptoCard : Claim7 := { stood := { row := paramsReadUptoRow, standIns := [], harness := (true, "ee8699f8fd6b548e86d6d158f9090b3bdb76e1cda20569fc87025a8259ce30fd"), looks := true }, kinds := [], alts := [], laidByText := true, laidKinds := [.data, .data], laidTests := true, laidLooks := .later }
def ParamsReadUptoCardSaid : Prop := Claim7.holds Tryd.pinned (.plain (OpenSpec.upto paramsReadSpec)) paramsReadUptoCard

/-- THE SECOND FORM's CARD OF 'shibbolethlaw07.ParamsBack'. -/
def paramsBackUptoCard : Claim7 := { stood := { row := paramsBackUptoRow, standIns := [], harness := (true, "ee8699f8fd6b548e86d6d158f9090b3bdb76e1cda20569fc87025a8259ce30fd"), looks := true }, kinds := [], alts := [], laidByText := true, laidKinds := [.data, .data], laidTests := true, laidLooks := .later }
def ParamsBackUptoCardSaid : Prop := Claim7.holds Tryd.pinned (.plain (OpenSpec.upto paramsBackSpec)) paramsBackUptoCard

/-- THE SECOND FORM's CARD OF 'shibbolethlaw07.ParamsAgain'. -/
def paramsAgainUptoCard : Claim7 := { stood := { row := paramsAgainUptoRow, standIns := [], harness := (true, "ee8699f8fd6b548e86d6d158f9090b3bdb76e1cda20569fc87025a8259ce30fd"), looks := true }, kinds := [], alts := [], laidByText := true, laidKinds := [.data, .data], laidTests := true, laidLooks := .later }
def ParamsAgainUptoCardSaid : Prop := Claim7.holds Tryd.pinned (.plain (OpenSpec.upto paramsAgainSpec)) paramsAgainUptoCard

/-- THE SECOND FORM's CARD OF 'shibbolethlaw07.ParamsSame'. -/
def paramsSameUptoCard : Claim7 := { stood := { row := paramsSameUptoRow, standIns := [], harness := (true, "ee8699f8fd6b548e86d6d158f9090b3bdb76e1cda20569fc87025a8259ce30fd"), looks := true }, kinds := [], alts := [], laidByText := true, laidKinds := [.data, .data], laidTests := true, laidLooks := .later }
def ParamsSameUptoCardSaid : Prop := Claim7.holds Tryd.pinned (.plain (OpenSpec.upto paramsSameSpec)) paramsSameUptoCard
end Rows
end Go.Proofs.YtmglhlfjddgllaaDoor
