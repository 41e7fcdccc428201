/-
  DERIVED. GIVEN WITH THE SEED: THE CARDS: each row of YtofklfahbhhoiaaDoorRows.lean that lists a variable, with what it lists TIED to the program's text (the seventh form; the later family's looks); each row that meets fmt, with fmt's text TOLD by the authors' own Lean function (tested against real Go, not proved from fmt's source: count such statements apart). THE CARD IS WHAT COUNTS. Prove the row's statement (the work); the ties are given (YtofklfahbhhoiaaDoorTie.lean); close each card by the builder's one call (the guide's Derived/Test/ToyasCard.lean, 'card_holds'). Laid BY PROGRAM, IN A SANDBOX (cutbox-door.mjs). By AI agents, Wed Nov 11 2026. No macro, syntax, notation, axiom, sorry.
-/
import Derived.Test.YtofklfahbhhoiaaDoorRows
import GoSem.ClaimSeven
namespace Go.Proofs.YtofklfahbhhoiaaDoor
namespace Rows

/-- THE TIED CARD OF 'shibbolethlaw16.TokenMints'. -/
def tokenMintsCard : Claim7 := { stood := { row := tokenMintsRow, standIns := [], harness := (true, "9c9665dedfcd7d594e13cf3dd2fa31440586c8d4212e5d87f7ca7f710c88f4f4"), looks := false }, kinds := [], alts := [], laidByText := true, laidKinds := [.data, .data], laidTests := true, laidLooks := .later }
def TokenMintsCardSaid : Prop := Claim7.holds Tryd.pinned (.plain (OpenSpec.ofChange tokenMintsSpec)) tokenMintsCard

/-- THE TIED CARD OF 'shibbolethlaw16.TokenReads'. -/
def tokenReadsCard : Claim7 := { stood := { row := tokenReadsRow, standIns := [], harness := (true, "9c9665dedfcd7d594e13cf3dd2fa31440586c8d4212e5d87f7ca7f710c88f4f4"), looks := false }, kinds := [], alts := [], laidByText := true, laidKinds := [.data, .data], laidTests := true, laidLooks := .later }
def TokenReadsCardSaid : Prop := Claim7.holds Tryd.pinned (.plain (OpenSpec.ofChange tokenReadsSpec)) tokenReadsCard

/-- THE TIED CARD OF 'shibbolethlaw16.TokenUnlike'. -/
def tokenUnlikeCard : Claim7 := { stood := { row := tokenUnlikeRow, standIns := [], harness := (true, "9c9665dedfcd7d594e13cf3dd2fa31440586c8d4212e5d87f7ca7f710c88f4f4"), looks := false }, kinds := [], alts := [], laidByText := true, laidKinds := [.data, .data], laidTests := true, laidLooks := .later }
def TokenUnlikeCardSaid : Prop := Claim7.holds Tryd.pinned (.plain (OpenSpec.ofChange tokenUnlikeSpec)) tokenUnlikeCard

/-- THE TIED CARD OF 'shibbolethlaw16.TokenOthers'. -/
def tokenOthersCard : Claim7 := { stood := { row := tokenOthersRow, standIns := [], harness := (true, "9c9665dedfcd7d594e13cf3dd2fa31440586c8d4212e5d87f7ca7f710c88f4f4"), looks := false }, kinds := [], alts := [], laidByText := true, laidKinds := [.data, .data], laidTests := true, laidLooks := .later }
def TokenOthersCardSaid : Prop := Claim7.holds Tryd.pinned (.plain (OpenSpec.ofChange tokenOthersSpec)) tokenOthersCard

/-- THE TIED CARD OF 'shibbolethlaw17.TicketIssues'. -/
def ticketIssuesCard : Claim7 := { stood := { row := ticketIssuesRow, standIns := [], harness := (true, "9c9665dedfcd7d594e13cf3dd2fa31440586c8d4212e5d87f7ca7f710c88f4f4"), looks := false }, kinds := [], alts := [], laidByText := true, laidKinds := [.data, .data], laidTests := true, laidLooks := .later }
def TicketIssuesCardSaid : Prop := Claim7.holds Tryd.pinned (.plain (OpenSpec.ofChange ticketIssuesSpec)) ticketIssuesCard

/-- THE TIED CARD OF 'shibbolethlaw17.TicketReads'. -/
def ticketReadsCard : Claim7 := { stood := { row := ticketReadsRow, standIns := [], harness := (true, "9c9665dedfcd7d594e13cf3dd2fa31440586c8d4212e5d87f7ca7f710c88f4f4"), looks := false }, kinds := [], alts := [], laidByText := true, laidKinds := [.data, .data], laidTests := true, laidLooks := .later }
def TicketReadsCardSaid : Prop := Claim7.holds Tryd.pinned (.plain (OpenSpec.ofChange ticketReadsSpec)) ticketReadsCard

/-- THE TIED CARD OF 'shibbolethlaw17.TicketOthers'. -/
def ticketOthersCard : Claim7 := { stood := { row := ticketOthersRow, standIns := [], harness := (true, "9c9665dedfcd7d594e13cf3dd2fa31440586c8d4212e5d87f7ca7f710c88f4f4"), looks := false }, kinds := [], alts := [], laidByText := true, laidKinds := [.data, .data], laidTests := true, laidLooks := .later }
def TicketOthersCardSaid : Prop := Claim7.holds Tryd.pinned (.plain (OpenSpec.ofChange ticketOthersSpec)) ticketOthersCard

/-- THE TIED CARD OF 'shibbolethlaw17.TicketTimes'. -/
def ticketTimesCard : Claim7 := { stood := { row := ticketTimesRow, standIns := [], harness := (true, "9c9665dedfcd7d594e13cf3dd2fa31440586c8d4212e5d87f7ca7f710c88f4f4"), looks := false }, kinds := [], alts := [], laidByText := true, laidKinds := [.data, .data], laidTests := true, laidLooks := .later }
def TicketTimesCardSaid : Prop := Claim7.holds Tryd.pinned (.plain (OpenSpec.ofChange ticketTimesSpec)) ticketTimesCard

/-- THE SECOND FORM's CARD OF 'shibbolethlaw16.TokenMints'. -/
def tokenMintsUptoCard : Claim7 := { stood := { row := tokenMintsUptoRow, standIns := [], harness := (true, "9c9665dedfcd7d594e13cf3dd2fa31440586c8d4212e5d87f7ca7f710c88f4f4"), looks := false }, kinds := [], alts := [], laidByText := true, laidKinds := [.data, .data], laidTests := true, laidLooks := .later }
def TokenMintsUptoCardSaid : Prop := Claim7.holds Tryd.pinned (.plain (OpenSpec.upto tokenMintsSpec)) tokenMintsUptoCard

/-- THE SECOND FORM's CARD OF 'shibbolethlaw16.TokenReads'. -/
def tokenReadsUptoCard : Claim7 := { stood := { row := tokenReadsUptoRow, standIns := [], harness := (true, "9c9665dedfcd7d594e13cf3dd2fa31440586c8d4212e5d87f7ca7f710c88f4f4"), looks := false }, kinds := [], alts := [], laidByText := true, laidKinds := [.data, .data], laidTests := true, laidLooks := .later }
def TokenReadsUptoCardSaid : Prop := Claim7.holds Tryd.pinned (.plain (OpenSpec.upto tokenReadsSpec)) tokenReadsUptoCard

/-- THE SECOND FORM's CARD OF 'shibbolethlaw16.TokenUnlike'. -/
def tokenUnlikeUptoCard : Claim7 := { stood := { row := tokenUnlikeUptoRow, standIns := [], harness := (true, "9c9665dedfcd7d594e13cf3dd2fa31440586c8d4212e5d87f7ca7f710c88f4f4"), looks := false }, kinds := [], alts := [], laidByText := true, laidKinds := [.data, .data], laidTests := true, laidLooks := .later }
def TokenUnlikeUptoCardSaid : Prop := Claim7.holds Tryd.pinned (.plain (OpenSpec.upto tokenUnlikeSpec)) tokenUnlikeUptoCard

/-- THE SECOND FORM's CARD OF 'shibbolethlaw16.TokenOthers'. -/
def tokenOthersUptoCard : Claim7 := { stood := { row := tokenOthersUptoRow, standIns := [], harness := (true, "9c9665dedfcd7d594e13cf3dd2fa31440586c8d4212e5d87f7ca7f710c88f4f4"), looks := false }, kinds := [], alts := [], laidByText := true, laidKinds := [.data, .data], laidTests := true, laidLooks := .later }
def TokenOthersUptoCardSaid : Prop := Claim7.holds Tryd.pinned (.plain (OpenSpec.upto tokenOthersSpec)) tokenOthersUptoCard

/-- THE SECOND FORM's CARD OF 'shibbolethlaw17.TicketIssues'. -/
def ticketIssuesUptoCard : Claim7 := { stood := { row := ticketIssuesUptoRow, standIns := [], harness := (true, "9c9665dedfcd7d594e13cf3dd2fa31440586c8d4212e5d87f7ca7f710c88f4f4"), looks := false }, kinds := [], alts := [], laidByText := true, laidKinds := [.data, .data], laidTests := true, laidLooks := .later }
def TicketIssuesUptoCardSaid : Prop := Claim7.holds Tryd.pinned (.plain (OpenSpec.upto ticketIssuesSpec)) ticketIssuesUptoCard

/-- THE SECOND FORM's CARD OF 'shibbolethlaw17.TicketReads'. -/
def ticketReadsUptoCard : Claim7 := { stood := { row := ticketReadsUptoRow, standIns := [], harness := (true, "9c9665dedfcd7d594e13cf3dd2fa31440586c8d4212e5d87f7ca7f710c88f4f4"), looks := false }, kinds := [], alts := [], laidByText := true, laidKinds := [.data, .data], laidTests := true, laidLooks := .later }
def TicketReadsUptoCardSaid : Prop := Claim7.holds Tryd.pinned (.plain (OpenSpec.upto ticketReadsSpec)) ticketReadsUptoCard

/-- THE SECOND FORM's CARD OF 'shibbolethlaw17.TicketOthers'. -/
def ticketOthersUptoCard : Claim7 := { stood := { row := ticketOthersUptoRow, standIns := [], harness := (true, "9c9665dedfcd7d594e13cf3dd2fa31440586c8d4212e5d87f7ca7f710c88f4f4"), looks := false }, kinds := [], alts := [], laidByText := true, laidKinds := [.data, .data], laidTests := true, laidLooks := .later }
def TicketOthersUptoCardSaid : Prop := Claim7.holds Tryd.pinned (.plain (OpenSpec.upto ticketOthersSpec)) ticketOthersUptoCard

/-- THE SECOND FORM's CARD OF 'shibbolethlaw17.TicketTimes'. -/
def ticketTimesUptoCard : Claim7 := { stood := { row := ticketTimesUptoRow, standIns := [], harness := (true, "9c9665dedfcd7d594e13cf3dd2fa31440586c8d4212e5d87f7ca7f710c88f4f4"), looks := false }, kinds := [], alts := [], laidByText := true, laidKinds := [.data, .data], laidTests := true, laidLooks := .later }
def TicketTimesUptoCardSaid : Prop := Claim7.holds Tryd.pinned (.plain (OpenSpec.upto ticketTimesSpec)) ticketTimesUptoCard
end Rows
end Go.Proofs.YtofklfahbhhoiaaDoor
