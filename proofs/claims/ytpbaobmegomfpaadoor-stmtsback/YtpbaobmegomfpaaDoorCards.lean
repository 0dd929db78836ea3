/-
  DERIVED. GIVEN WITH THE SEED: THE CARDS: each row of YtpbaobmegomfpaaDoorRows.lean that lists a variable, with what it lists TIED to the program's text (the seventh form; the later family's looks); each row that meets fmt, with fmt's text TOLD by the authors' own Lean function (tested against real Go, not proved from fmt's source: count such statements apart). THE CARD IS WHAT COUNTS. Prove the row's statement (the work); the ties are given (YtpbaobmegomfpaaDoorTie.lean); close each card by the builder's one call (the guide's Derived/Test/ToyasCard.lean, 'card_holds'). Laid BY PROGRAM, IN A SANDBOX (cutbox-door.mjs). By AI agents, Wed Nov 11 2026. No macro, syntax, notation, axiom, sorry.
-/
import Derived.Test.YtpbaobmegomfpaaDoorRows
import GoSem.ClaimSeven
namespace Go.Proofs.YtpbaobmegomfpaaDoor
namespace Rows

/-- THE TIED CARD OF 'tillermanlaw.SayChecks'. -/
def sayChecksCard : Claim7 := { stood := { row := sayChecksRow, standIns := [], harness := (true, "9a7e914854b601c33bd8c017c65da310e612a7930bd18d7bd8ede6d39fb7bfe9"), looks := false }, kinds := [], alts := [], laidByText := true, laidKinds := [.data], laidTests := true, laidLooks := .later }
def SayChecksCardSaid : Prop := Claim7.holds Tryd.pinned (.plain (OpenSpec.ofChange sayChecksSpec)) sayChecksCard

/-- THE TIED CARD OF 'tillermanlaw.SayShows'. -/
def sayShowsCard : Claim7 := { stood := { row := sayShowsRow, standIns := [], harness := (true, "9a7e914854b601c33bd8c017c65da310e612a7930bd18d7bd8ede6d39fb7bfe9"), looks := false }, kinds := [], alts := [], laidByText := true, laidKinds := [.data], laidTests := true, laidLooks := .later }
def SayShowsCardSaid : Prop := Claim7.holds Tryd.pinned (.plain (OpenSpec.ofChange sayShowsSpec)) sayShowsCard

/-- THE TIED CARD OF 'tillermanlaw.SayReads'. -/
def sayReadsCard : Claim7 := { stood := { row := sayReadsRow, standIns := [], harness := (true, "9a7e914854b601c33bd8c017c65da310e612a7930bd18d7bd8ede6d39fb7bfe9"), looks := false }, kinds := [], alts := [], laidByText := true, laidKinds := [.data], laidTests := true, laidLooks := .later }
def SayReadsCardSaid : Prop := Claim7.holds Tryd.pinned (.plain (OpenSpec.ofChange sayReadsSpec)) sayReadsCard

/-- THE TIED CARD OF 'tillermanlaw.SayTells'. -/
def sayTellsCard : Claim7 := { stood := { row := sayTellsRow, standIns := [], harness := (true, "9a7e914854b601c33bd8c017c65da310e612a7930bd18d7bd8ede6d39fb7bfe9"), looks := false }, kinds := [], alts := [], laidByText := true, laidKinds := [.data], laidTests := true, laidLooks := .later }
def SayTellsCardSaid : Prop := Claim7.holds Tryd.pinned (.plain (OpenSpec.ofChange sayTellsSpec)) sayTellsCard

/-- THE TIED CARD OF 'tillermankeep.StmtsBack'. -/
def stmtsBackCard : Claim7 := { stood := { row := stmtsBackRow, standIns := [], harness := (true, "9a7e914854b601c33bd8c017c65da310e612a7930bd18d7bd8ede6d39fb7bfe9"), looks := false }, kinds := [], alts := [], laidByText := true, laidKinds := [.data, .data, .data, .data], laidTests := true, laidLooks := .later }
def StmtsBackCardSaid : Prop := Claim7.holds Tryd.pinned (.plain (OpenSpec.ofChange stmtsBackSpec)) stmtsBackCard

/-- THE TIED CARD OF 'tillermankeep.StmtsBad'. -/
def stmtsBadCard : Claim7 := { stood := { row := stmtsBadRow, standIns := [], harness := (true, "9a7e914854b601c33bd8c017c65da310e612a7930bd18d7bd8ede6d39fb7bfe9"), looks := false }, kinds := [], alts := [], laidByText := true, laidKinds := [.data], laidTests := true, laidLooks := .later }
def StmtsBadCardSaid : Prop := Claim7.holds Tryd.pinned (.plain (OpenSpec.ofChange stmtsBadSpec)) stmtsBadCard

/-- THE TIED CARD OF 'tillermankeep.TellsApart'. -/
def tellsApartCard : Claim7 := { stood := { row := tellsApartRow, standIns := [], harness := (true, "9a7e914854b601c33bd8c017c65da310e612a7930bd18d7bd8ede6d39fb7bfe9"), looks := false }, kinds := [], alts := [], laidByText := true, laidKinds := [.data], laidTests := true, laidLooks := .later }
def TellsApartCardSaid : Prop := Claim7.holds Tryd.pinned (.plain (OpenSpec.ofChange tellsApartSpec)) tellsApartCard

/-- THE TIED CARD OF 'tillermanlaw.BackChecks'. -/
def backChecksCard : Claim7 := { stood := { row := backChecksRow, standIns := [], harness := (true, "9a7e914854b601c33bd8c017c65da310e612a7930bd18d7bd8ede6d39fb7bfe9"), looks := false }, kinds := [], alts := [], laidByText := true, laidKinds := [.data], laidTests := true, laidLooks := .later }
def BackChecksCardSaid : Prop := Claim7.holds Tryd.pinned (.plain (OpenSpec.ofChange backChecksSpec)) backChecksCard

/-- THE SECOND FORM's CARD OF 'tillermanlaw.SayChecks'. -/
def sayChecksUptoCard : Claim7 := { stood := { row := sayChecksUptoRow, standIns := [], harness := (true, "9a7e914854b601c33bd8c017c65da310e612a7930bd18d7bd8ede6d39fb7bfe9"), looks := false }, kinds := [], alts := [], laidByText := true, laidKinds := [.data], laidTests := true, laidLooks := .later }
def SayChecksUptoCardSaid : Prop := Claim7.holds Tryd.pinned (.plain (OpenSpec.upto sayChecksSpec)) sayChecksUptoCard

/-- THE SECOND FORM's CARD OF 'tillermanlaw.SayShows'. -/
def sayShowsUptoCard : Claim7 := { stood := { row := sayShowsUptoRow, standIns := [], harness := (true, "9a7e914854b601c33bd8c017c65da310e612a7930bd18d7bd8ede6d39fb7bfe9"), looks := false }, kinds := [], alts := [], laidByText := true, laidKinds := [.data], laidTests := true, laidLooks := .later }
def SayShowsUptoCardSaid : Prop := Claim7.holds Tryd.pinned (.plain (OpenSpec.upto sayShowsSpec)) sayShowsUptoCard

/-- THE SECOND FORM's CARD OF 'tillermanlaw.SayReads'. -/
def sayReadsUptoCard : Claim7 := { stood := { row := sayReadsUptoRow, standIns := [], harness := (true, "9a7e914854b601c33bd8c017c65da310e612a7930bd18d7bd8ede6d39fb7bfe9"), looks := false }, kinds := [], alts := [], laidByText := true, laidKinds := [.data], laidTests := true, laidLooks := .later }
def SayReadsUptoCardSaid : Prop := Claim7.holds Tryd.pinned (.plain (OpenSpec.upto sayReadsSpec)) sayReadsUptoCard

/-- THE SECOND FORM's CARD OF 'tillermanlaw.SayTells'. -/
def sayTellsUptoCard : Claim7 := { stood := { row := sayTellsUptoRow, standIns := [], harness := (true, "9a7e914854b601c33bd8c017c65da310e612a7930bd18d7bd8ede6d39fb7bfe9"), looks := false }, kinds := [], alts := [], laidByText := true, laidKinds := [.data], laidTests := true, laidLooks := .later }
def SayTellsUptoCardSaid : Prop := Claim7.holds Tryd.pinned (.plain (OpenSpec.upto sayTellsSpec)) sayTellsUptoCard

/-- THE SECOND FORM's CARD OF 'tillermankeep.StmtsBack'. -/
def stmtsBackUptoCard : Claim7 := { stood := { row := stmtsBackUptoRow, standIns := [], harness := (true, "9a7e914854b601c33bd8c017c65da310e612a7930bd18d7bd8ede6d39fb7bfe9"), looks := false }, kinds := [], alts := [], laidByText := true, laidKinds := [.data, .data, .data, .data], laidTests := true, laidLooks := .later }
def StmtsBackUptoCardSaid : Prop := Claim7.holds Tryd.pinned (.plain (OpenSpec.upto stmtsBackSpec)) stmtsBackUptoCard

/-- THE SECOND FORM's CARD OF 'tillermankeep.StmtsBad'. -/
def stmtsBadUptoCard : Claim7 := { stood := { row := stmtsBadUptoRow, standIns := [], harness := (true, "9a7e914854b601c33bd8c017c65da310e612a7930bd18d7bd8ede6d39fb7bfe9"), looks := false }, kinds := [], alts := [], laidByText := true, laidKinds := [.data], laidTests := true, laidLooks := .later }
def StmtsBadUptoCardSaid : Prop := Claim7.holds Tryd.pinned (.plain (OpenSpec.upto stmtsBadSpec)) stmtsBadUptoCard

/-- THE SECOND FORM's CARD OF 'tillermankeep.TellsApart'. -/
def tellsApartUptoCard : Claim7 := { stood := { row := tellsApartUptoRow, standIns := [], harness := (true, "9a7e914854b601c33bd8c017c65da310e612a7930bd18d7bd8ede6d39fb7bfe9"), looks := false }, kinds := [], alts := [], laidByText := true, laidKinds := [.data], laidTests := true, laidLooks := .later }
def TellsApartUptoCardSaid : Prop := Claim7.holds Tryd.pinned (.plain (OpenSpec.upto tellsApartSpec)) tellsApartUptoCard

/-- THE SECOND FORM's CARD OF 'tillermanlaw.BackChecks'. -/
def backChecksUptoCard : Claim7 := { stood := { row := backChecksUptoRow, standIns := [], harness := (true, "9a7e914854b601c33bd8c017c65da310e612a7930bd18d7bd8ede6d39fb7bfe9"), looks := false }, kinds := [], alts := [], laidByText := true, laidKinds := [.data], laidTests := true, laidLooks := .later }
def BackChecksUptoCardSaid : Prop := Claim7.holds Tryd.pinned (.plain (OpenSpec.upto backChecksSpec)) backChecksUptoCard
end Rows
end Go.Proofs.YtpbaobmegomfpaaDoor
