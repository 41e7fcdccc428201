/-
  DERIVED. GIVEN WITH THE SEED: THE CARDS: each row of YtepkhhpdpmhfaaaDoorRows.lean that lists a variable, with what it lists TIED to the program's text (the seventh form; the later family's looks); each row that meets fmt, with fmt's text TOLD by the authors' own Lean function (tested against real Go, not proved from fmt's source: count such statements apart). THE CARD IS WHAT COUNTS. Prove the row's statement (the work); the ties are given (YtepkhhpdpmhfaaaDoorTie.lean); close each card by the builder's one call (the guide's Derived/Test/ToyasCard.lean, 'card_holds'). Laid BY PROGRAM, IN A SANDBOX (cutbox-door.mjs). By AI agents, Wed Nov 11 2026. No macro, syntax, notation, axiom, sorry.
-/
import Derived.Test.YtepkhhpdpmhfaaaDoorRows
import GoSem.ClaimSeven
namespace Go.Proofs.YtepkhhpdpmhfaaaDoor
namespace Rows

/-- THE TIED CARD OF 'shibbolethlaw16.TokenKeys'. -/
def tokenKeysCard : Claim7 := { stood := { row := tokenKeysRow, standIns := [], harness := (true, "464b75a6483942cc1a03eae2ae08796d8747add79329c281ce3e91ceb428c0c0"), looks := false }, kinds := [], alts := [], laidByText := true, laidKinds := [.data, .data], laidTests := true, laidLooks := .later }
def TokenKeysCardSaid : Prop := Claim7.holds Tryd.pinned (.plain (OpenSpec.ofChange tokenKeysSpec)) tokenKeysCard

/-- THE TIED CARD OF 'shibbolethlaw17.TicketKeys'. -/
def ticketKeysCard : Claim7 := { stood := { row := ticketKeysRow, standIns := [], harness := (true, "464b75a6483942cc1a03eae2ae08796d8747add79329c281ce3e91ceb428c0c0"), looks := false }, kinds := [], alts := [], laidByText := true, laidKinds := [.data, .data], laidTests := true, laidLooks := .later }
def TicketKeysCardSaid : Prop := Claim7.holds Tryd.pinned (.plain (OpenSpec.ofChange ticketKeysSpec)) ticketKeysCard

/-- THE SECOND FORM's CARD OF 'shibbolethlaw16.TokenKeys'. -/
def tokenKeysUptoCard : Claim7 := { stood := { row := tokenKeysUptoRow, standIns := [], harness := (true, "464b75a6483942cc1a03eae2ae08796d8747add79329c281ce3e91ceb428c0c0"), looks := false }, kinds := [], alts := [], laidByText := true, laidKinds := [.data, .data], laidTests := true, laidLooks := .later }
def TokenKeysUptoCardSaid : Prop := Claim7.holds Tryd.pinned (.plain (OpenSpec.upto tokenKeysSpec)) tokenKeysUptoCard

/-- THE SECOND FORM's CARD OF 'shibbolethlaw17.TicketKeys'. -/
def ticketKeysUptoCard : Claim7 := { stood := { row := ticketKeysUptoRow, standIns := [], harness := (true, "464b75a6483942cc1a03eae2ae08796d8747add79329c281ce3e91ceb428c0c0"), looks := false }, kinds := [], alts := [], laidByText := true, laidKinds := [.data, .data], laidTests := true, laidLooks := .later }
def TicketKeysUptoCardSaid : Prop := Claim7.holds Tryd.pinned (.plain (OpenSpec.upto ticketKeysSpec)) ticketKeysUptoCard
end Rows
end Go.Proofs.YtepkhhpdpmhfaaaDoor
