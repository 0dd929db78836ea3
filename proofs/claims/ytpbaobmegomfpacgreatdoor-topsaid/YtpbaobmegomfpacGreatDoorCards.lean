/-
  DERIVED. GIVEN WITH THE SEED: THE CARDS: each row of YtpbaobmegomfpacGreatDoorRows.lean that lists a variable, with what it lists TIED to the program's text (the seventh form; the later family's looks); each row that meets fmt, with fmt's text TOLD by the authors' own Lean function (tested against real Go, not proved from fmt's source: count such statements apart). THE CARD IS WHAT COUNTS. Prove the row's statement (the work); the ties are given (YtpbaobmegomfpacGreatDoorTie.lean); close each card by the builder's one call (the guide's Derived/Test/ToyasCard.lean, 'card_holds'). Laid BY PROGRAM, IN A SANDBOX (cutbox-door.mjs). By AI agents, Wed Nov 11 2026. No macro, syntax, notation, axiom, sorry.
-/
import Derived.Test.YtpbaobmegomfpacGreatDoorRows
import GoSem.ClaimSeven
namespace Go.Proofs.YtpbaobmegomfpacGreatDoor
namespace Rows

/-- THE TIED CARD OF 'tillermantop.TopLeak'. -/
def topLeakCard : Claim7 := { stood := { row := topLeakRow, standIns := [], harness := (true, "35d3d886c1ef71198d22f20afda6989265f0d3df279d3aa8b5836b1e76216feb"), looks := false }, kinds := [], alts := [], laidByText := true, laidKinds := [.data, .data, .data, .data, .data], laidTests := true, laidLooks := .later }
def TopLeakCardSaid : Prop := Claim7.holds Tryz.pinned (.plain (OpenSpec.ofChange topLeakSpec)) topLeakCard

/-- THE TIED CARD OF 'tillermantop.TopSaid'. -/
def topSaidCard : Claim7 := { stood := { row := topSaidRow, standIns := [], harness := (true, "35d3d886c1ef71198d22f20afda6989265f0d3df279d3aa8b5836b1e76216feb"), looks := false }, kinds := [], alts := [], laidByText := true, laidKinds := [.data, .data, .data, .data, .data], laidTests := true, laidLooks := .later }
def TopSaidCardSaid : Prop := Claim7.holds Tryz.pinned (.plain (OpenSpec.ofChange topSaidSpec)) topSaidCard

/-- THE TIED CARD OF 'tillermantop.TopModes'. -/
def topModesCard : Claim7 := { stood := { row := topModesRow, standIns := [], harness := (true, "35d3d886c1ef71198d22f20afda6989265f0d3df279d3aa8b5836b1e76216feb"), looks := false }, kinds := [], alts := [], laidByText := true, laidKinds := [.data, .data, .data, .data, .data], laidTests := true, laidLooks := .later }
def TopModesCardSaid : Prop := Claim7.holds Tryz.pinned (.plain (OpenSpec.ofChange topModesSpec)) topModesCard

/-- THE TIED CARD OF 'tillermantop.TopCuts'. -/
def topCutsCard : Claim7 := { stood := { row := topCutsRow, standIns := [], harness := (true, "35d3d886c1ef71198d22f20afda6989265f0d3df279d3aa8b5836b1e76216feb"), looks := false }, kinds := [], alts := [], laidByText := true, laidKinds := [.data, .data, .data, .data, .data], laidTests := true, laidLooks := .later }
def TopCutsCardSaid : Prop := Claim7.holds Tryz.pinned (.plain (OpenSpec.ofChange topCutsSpec)) topCutsCard

/-- THE TIED CARD OF 'tillermantop.TopCommitted'. -/
def topCommittedCard : Claim7 := { stood := { row := topCommittedRow, standIns := [], harness := (true, "35d3d886c1ef71198d22f20afda6989265f0d3df279d3aa8b5836b1e76216feb"), looks := false }, kinds := [], alts := [], laidByText := true, laidKinds := [.data, .data, .data, .data, .data], laidTests := true, laidLooks := .later }
def TopCommittedCardSaid : Prop := Claim7.holds Tryz.pinned (.plain (OpenSpec.ofChange topCommittedSpec)) topCommittedCard

/-- THE TIED CARD OF 'tillermantop.TopGone'. -/
def topGoneCard : Claim7 := { stood := { row := topGoneRow, standIns := [], harness := (true, "35d3d886c1ef71198d22f20afda6989265f0d3df279d3aa8b5836b1e76216feb"), looks := false }, kinds := [], alts := [], laidByText := true, laidKinds := [.data, .data, .data, .data, .data], laidTests := true, laidLooks := .later }
def TopGoneCardSaid : Prop := Claim7.holds Tryz.pinned (.plain (OpenSpec.ofChange topGoneSpec)) topGoneCard

/-- THE TIED CARD OF 'tillermantop.TopTwice'. -/
def topTwiceCard : Claim7 := { stood := { row := topTwiceRow, standIns := [], harness := (true, "35d3d886c1ef71198d22f20afda6989265f0d3df279d3aa8b5836b1e76216feb"), looks := false }, kinds := [], alts := [], laidByText := true, laidKinds := [.data, .data, .data, .data, .data], laidTests := true, laidLooks := .later }
def TopTwiceCardSaid : Prop := Claim7.holds Tryz.pinned (.plain (OpenSpec.ofChange topTwiceSpec)) topTwiceCard

/-- THE TIED CARD OF 'tillermantop.TopBad'. -/
def topBadCard : Claim7 := { stood := { row := topBadRow, standIns := [], harness := (true, "35d3d886c1ef71198d22f20afda6989265f0d3df279d3aa8b5836b1e76216feb"), looks := false }, kinds := [], alts := [], laidByText := true, laidKinds := [.data, .data], laidTests := true, laidLooks := .later }
def TopBadCardSaid : Prop := Claim7.holds Tryz.pinned (.plain (OpenSpec.ofChange topBadSpec)) topBadCard

/-- THE SECOND FORM's CARD OF 'tillermantop.TopLeak'. -/
def topLeakUptoCard : Claim7 := { stood := { row := topLeakUptoRow, standIns := [], harness := (true, "35d3d886c1ef71198d22f20afda6989265f0d3df279d3aa8b5836b1e76216feb"), looks := false }, kinds := [], alts := [], laidByText := true, laidKinds := [.data, .data, .data, .data, .data], laidTests := true, laidLooks := .later }
def TopLeakUptoCardSaid : Prop := Claim7.holds Tryz.pinned (.plain (OpenSpec.upto topLeakSpec)) topLeakUptoCard

/-- THE SECOND FORM's CARD OF 'tillermantop.TopSaid'. -/
def topSaidUptoCard : Claim7 := { stood := { row := topSaidUptoRow, standIns := [], harness := (true, "35d3d886c1ef71198d22f20afda6989265f0d3df279d3aa8b5836b1e76216feb"), looks := false }, kinds := [], alts := [], laidByText := true, laidKinds := [.data, .data, .data, .data, .data], laidTests := true, laidLooks := .later }
def TopSaidUptoCardSaid : Prop := Claim7.holds Tryz.pinned (.plain (OpenSpec.upto topSaidSpec)) topSaidUptoCard

/-- THE SECOND FORM's CARD OF 'tillermantop.TopModes'. -/
def topModesUptoCard : Claim7 := { stood := { row := topModesUptoRow, standIns := [], harness := (true, "35d3d886c1ef71198d22f20afda6989265f0d3df279d3aa8b5836b1e76216feb"), looks := false }, kinds := [], alts := [], laidByText := true, laidKinds := [.data, .data, .data, .data, .data], laidTests := true, laidLooks := .later }
def TopModesUptoCardSaid : Prop := Claim7.holds Tryz.pinned (.plain (OpenSpec.upto topModesSpec)) topModesUptoCard

/-- THE SECOND FORM's CARD OF 'tillermantop.TopCuts'. -/
def topCutsUptoCard : Claim7 := { stood := { row := topCutsUptoRow, standIns := [], harness := (true, "35d3d886c1ef71198d22f20afda6989265f0d3df279d3aa8b5836b1e76216feb"), looks := false }, kinds := [], alts := [], laidByText := true, laidKinds := [.data, .data, .data, .data, .data], laidTests := true, laidLooks := .later }
def TopCutsUptoCardSaid : Prop := Claim7.holds Tryz.pinned (.plain (OpenSpec.upto topCutsSpec)) topCutsUptoCard

/-- THE SECOND FORM's CARD OF 'tillermantop.TopCommitted'. -/
def topCommittedUptoCard : Claim7 := { stood := { row := topCommittedUptoRow, standIns := [], harness := (true, "35d3d886c1ef71198d22f20afda6989265f0d3df279d3aa8b5836b1e76216feb"), looks := false }, kinds := [], alts := [], laidByText := true, laidKinds := [.data, .data, .data, .data, .data], laidTests := true, laidLooks := .later }
def TopCommittedUptoCardSaid : Prop := Claim7.holds Tryz.pinned (.plain (OpenSpec.upto topCommittedSpec)) topCommittedUptoCard

/-- THE SECOND FORM's CARD OF 'tillermantop.TopGone'. -/
def topGoneUptoCard : Claim7 := { stood := { row := topGoneUptoRow, standIns := [], harness := (true, "35d3d886c1ef71198d22f20afda6989265f0d3df279d3aa8b5836b1e76216feb"), looks := false }, kinds := [], alts := [], laidByText := true, laidKinds := [.data, .data, .data, .data, .data], laidTests := true, laidLooks := .later }
def TopGoneUptoCardSaid : Prop := Claim7.holds Tryz.pinned (.plain (OpenSpec.upto topGoneSpec)) topGoneUptoCard

/-- THE SECOND FORM's CARD OF 'tillermantop.TopTwice'. -/
def topTwiceUptoCard : Claim7 := { stood := { row := topTwiceUptoRow, standIns := [], harness := (true, "35d3d886c1ef71198d22f20afda6989265f0d3df279d3aa8b5836b1e76216feb"), looks := false }, kinds := [], alts := [], laidByText := true, laidKinds := [.data, .data, .data, .data, .data], laidTests := true, laidLooks := .later }
def TopTwiceUptoCardSaid : Prop := Claim7.holds Tryz.pinned (.plain (OpenSpec.upto topTwiceSpec)) topTwiceUptoCard

/-- THE SECOND FORM's CARD OF 'tillermantop.TopBad'. -/
def topBadUptoCard : Claim7 := { stood := { row := topBadUptoRow, standIns := [], harness := (true, "35d3d886c1ef71198d22f20afda6989265f0d3df279d3aa8b5836b1e76216feb"), looks := false }, kinds := [], alts := [], laidByText := true, laidKinds := [.data, .data], laidTests := true, laidLooks := .later }
def TopBadUptoCardSaid : Prop := Claim7.holds Tryz.pinned (.plain (OpenSpec.upto topBadSpec)) topBadUptoCard
end Rows
end Go.Proofs.YtpbaobmegomfpacGreatDoor
