/-
  DERIVED. GIVEN WITH THE SEED: THE CARDS: each row of YtpbaobmegomfpabGreatDoorRows.lean that lists a variable, with what it lists TIED to the program's text (the seventh form; the later family's looks); each row that meets fmt, with fmt's text TOLD by the authors' own Lean function (tested against real Go, not proved from fmt's source: count such statements apart). THE CARD IS WHAT COUNTS. Prove the row's statement (the work); the ties are given (YtpbaobmegomfpabGreatDoorTie.lean); close each card by the builder's one call (the guide's Derived/Test/ToyasCard.lean, 'card_holds'). Laid BY PROGRAM, IN A SANDBOX (cutbox-door.mjs). By AI agents, Wed Nov 11 2026. No macro, syntax, notation, axiom, sorry.
-/
import Derived.Test.YtpbaobmegomfpabGreatDoorRows
import GoSem.ClaimSeven
namespace Go.Proofs.YtpbaobmegomfpabGreatDoor
namespace Rows

/-- THE TIED CARD OF 'tillermanlaw.PoolRuns'. -/
def poolRunsCard : Claim7 := { stood := { row := poolRunsRow, standIns := [], harness := (true, "4ff6db96b41723196d7f96a4886d151a3c59073c42584ca6c67a3ec344a9ca5b"), looks := false }, kinds := [], alts := [], laidByText := true, laidKinds := [.data, .data], laidTests := true, laidLooks := .later }
def PoolRunsCardSaid : Prop := Claim7.holds Tryz.pinned (.plain (OpenSpec.ofChange poolRunsSpec)) poolRunsCard

/-- THE TIED CARD OF 'tillermankeep.AloneSame'. -/
def aloneSameCard : Claim7 := { stood := { row := aloneSameRow, standIns := [], harness := (true, "4ff6db96b41723196d7f96a4886d151a3c59073c42584ca6c67a3ec344a9ca5b"), looks := false }, kinds := [], alts := [], laidByText := true, laidKinds := [.data, .data, .data, .data, .data], laidTests := true, laidLooks := .later }
def AloneSameCardSaid : Prop := Claim7.holds Tryz.pinned (.plain (OpenSpec.ofChange aloneSameSpec)) aloneSameCard

/-- THE TIED CARD OF 'tillermankeep.SettingsKept'. -/
def settingsKeptCard : Claim7 := { stood := { row := settingsKeptRow, standIns := [], harness := (true, "4ff6db96b41723196d7f96a4886d151a3c59073c42584ca6c67a3ec344a9ca5b"), looks := false }, kinds := [], alts := [], laidByText := true, laidKinds := [.data, .data, .data, .data, .data], laidTests := true, laidLooks := .later }
def SettingsKeptCardSaid : Prop := Claim7.holds Tryz.pinned (.plain (OpenSpec.ofChange settingsKeptSpec)) settingsKeptCard

/-- THE TIED CARD OF 'tillermantop.TopPrivate'. -/
def topPrivateCard : Claim7 := { stood := { row := topPrivateRow, standIns := [], harness := (true, "4ff6db96b41723196d7f96a4886d151a3c59073c42584ca6c67a3ec344a9ca5b"), looks := false }, kinds := [], alts := [], laidByText := true, laidKinds := [.data, .data, .data, .data, .data], laidTests := true, laidLooks := .later }
def TopPrivateCardSaid : Prop := Claim7.holds Tryz.pinned (.plain (OpenSpec.ofChange topPrivateSpec)) topPrivateCard

/-- THE SECOND FORM's CARD OF 'tillermanlaw.PoolRuns'. -/
def poolRunsUptoCard : Claim7 := { stood := { row := poolRunsUptoRow, standIns := [], harness := (true, "4ff6db96b41723196d7f96a4886d151a3c59073c42584ca6c67a3ec344a9ca5b"), looks := false }, kinds := [], alts := [], laidByText := true, laidKinds := [.data, .data], laidTests := true, laidLooks := .later }
def PoolRunsUptoCardSaid : Prop := Claim7.holds Tryz.pinned (.plain (OpenSpec.upto poolRunsSpec)) poolRunsUptoCard

/-- THE SECOND FORM's CARD OF 'tillermankeep.AloneSame'. -/
def aloneSameUptoCard : Claim7 := { stood := { row := aloneSameUptoRow, standIns := [], harness := (true, "4ff6db96b41723196d7f96a4886d151a3c59073c42584ca6c67a3ec344a9ca5b"), looks := false }, kinds := [], alts := [], laidByText := true, laidKinds := [.data, .data, .data, .data, .data], laidTests := true, laidLooks := .later }
def AloneSameUptoCardSaid : Prop := Claim7.holds Tryz.pinned (.plain (OpenSpec.upto aloneSameSpec)) aloneSameUptoCard

/-- THE SECOND FORM's CARD OF 'tillermankeep.SettingsKept'. -/
def settingsKeptUptoCard : Claim7 := { stood := { row := settingsKeptUptoRow, standIns := [], harness := (true, "4ff6db96b41723196d7f96a4886d151a3c59073c42584ca6c67a3ec344a9ca5b"), looks := false }, kinds := [], alts := [], laidByText := true, laidKinds := [.data, .data, .data, .data, .data], laidTests := true, laidLooks := .later }
def SettingsKeptUptoCardSaid : Prop := Claim7.holds Tryz.pinned (.plain (OpenSpec.upto settingsKeptSpec)) settingsKeptUptoCard

/-- THE SECOND FORM's CARD OF 'tillermantop.TopPrivate'. -/
def topPrivateUptoCard : Claim7 := { stood := { row := topPrivateUptoRow, standIns := [], harness := (true, "4ff6db96b41723196d7f96a4886d151a3c59073c42584ca6c67a3ec344a9ca5b"), looks := false }, kinds := [], alts := [], laidByText := true, laidKinds := [.data, .data, .data, .data, .data], laidTests := true, laidLooks := .later }
def TopPrivateUptoCardSaid : Prop := Claim7.holds Tryz.pinned (.plain (OpenSpec.upto topPrivateSpec)) topPrivateUptoCard
end Rows
end Go.Proofs.YtpbaobmegomfpabGreatDoor
