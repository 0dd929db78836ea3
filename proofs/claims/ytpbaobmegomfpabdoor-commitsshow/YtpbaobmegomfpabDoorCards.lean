/-
  DERIVED. GIVEN WITH THE SEED: THE CARDS: each row of YtpbaobmegomfpabDoorRows.lean that lists a variable, with what it lists TIED to the program's text (the seventh form; the later family's looks); each row that meets fmt, with fmt's text TOLD by the authors' own Lean function (tested against real Go, not proved from fmt's source: count such statements apart). THE CARD IS WHAT COUNTS. Prove the row's statement (the work); the ties are given (YtpbaobmegomfpabDoorTie.lean); close each card by the builder's one call (the guide's Derived/Test/ToyasCard.lean, 'card_holds'). Laid BY PROGRAM, IN A SANDBOX (cutbox-door.mjs). By AI agents, Wed Nov 11 2026. No macro, syntax, notation, axiom, sorry.
-/
import Derived.Test.YtpbaobmegomfpabDoorRows
import GoSem.ClaimSeven
namespace Go.Proofs.YtpbaobmegomfpabDoor
namespace Rows

/-- THE TIED CARD OF 'tillermanlaw.BackDoes'. -/
def backDoesCard : Claim7 := { stood := { row := backDoesRow, standIns := [], harness := (true, "06885406eea5e283d1f6c9367ef051e401cbae44b764cae69918f4f644de6e6a"), looks := false }, kinds := [], alts := [], laidByText := true, laidKinds := [.data], laidTests := true, laidLooks := .later }
def BackDoesCardSaid : Prop := Claim7.holds Tryd.pinned (.plain (OpenSpec.ofChange backDoesSpec)) backDoesCard

/-- THE TIED CARD OF 'tillermankeep.BackGood'. -/
def backGoodCard : Claim7 := { stood := { row := backGoodRow, standIns := [], harness := (true, "06885406eea5e283d1f6c9367ef051e401cbae44b764cae69918f4f644de6e6a"), looks := false }, kinds := [], alts := [], laidByText := true, laidKinds := [.data, .data, .data, .data], laidTests := true, laidLooks := .later }
def BackGoodCardSaid : Prop := Claim7.holds Tryd.pinned (.plain (OpenSpec.ofChange backGoodSpec)) backGoodCard

/-- THE TIED CARD OF 'tillermankeep.OthersStay'. -/
def othersStayCard : Claim7 := { stood := { row := othersStayRow, standIns := [], harness := (true, "06885406eea5e283d1f6c9367ef051e401cbae44b764cae69918f4f644de6e6a"), looks := false }, kinds := [], alts := [], laidByText := true, laidKinds := [.data, .data, .data, .data], laidTests := true, laidLooks := .later }
def OthersStayCardSaid : Prop := Claim7.holds Tryd.pinned (.plain (OpenSpec.ofChange othersStaySpec)) othersStayCard

/-- THE TIED CARD OF 'tillermankeep.UndoneGone'. -/
def undoneGoneCard : Claim7 := { stood := { row := undoneGoneRow, standIns := [], harness := (true, "06885406eea5e283d1f6c9367ef051e401cbae44b764cae69918f4f644de6e6a"), looks := false }, kinds := [], alts := [], laidByText := true, laidKinds := [.data, .data, .data, .data], laidTests := true, laidLooks := .later }
def UndoneGoneCardSaid : Prop := Claim7.holds Tryd.pinned (.plain (OpenSpec.ofChange undoneGoneSpec)) undoneGoneCard

/-- THE TIED CARD OF 'tillermankeep.CommitsShow'. -/
def commitsShowCard : Claim7 := { stood := { row := commitsShowRow, standIns := [], harness := (true, "06885406eea5e283d1f6c9367ef051e401cbae44b764cae69918f4f644de6e6a"), looks := false }, kinds := [], alts := [], laidByText := true, laidKinds := [.data, .data, .data, .data], laidTests := true, laidLooks := .later }
def CommitsShowCardSaid : Prop := Claim7.holds Tryd.pinned (.plain (OpenSpec.ofChange commitsShowSpec)) commitsShowCard

/-- THE TIED CARD OF 'tillermankeep.PrepsRun'. -/
def prepsRunCard : Claim7 := { stood := { row := prepsRunRow, standIns := [], harness := (true, "06885406eea5e283d1f6c9367ef051e401cbae44b764cae69918f4f644de6e6a"), looks := false }, kinds := [], alts := [], laidByText := true, laidKinds := [.data, .data, .data, .data], laidTests := true, laidLooks := .later }
def PrepsRunCardSaid : Prop := Claim7.holds Tryd.pinned (.plain (OpenSpec.ofChange prepsRunSpec)) prepsRunCard

/-- THE SECOND FORM's CARD OF 'tillermanlaw.BackDoes'. -/
def backDoesUptoCard : Claim7 := { stood := { row := backDoesUptoRow, standIns := [], harness := (true, "06885406eea5e283d1f6c9367ef051e401cbae44b764cae69918f4f644de6e6a"), looks := false }, kinds := [], alts := [], laidByText := true, laidKinds := [.data], laidTests := true, laidLooks := .later }
def BackDoesUptoCardSaid : Prop := Claim7.holds Tryd.pinned (.plain (OpenSpec.upto backDoesSpec)) backDoesUptoCard

/-- THE SECOND FORM's CARD OF 'tillermankeep.BackGood'. -/
def backGoodUptoCard : Claim7 := { stood := { row := backGoodUptoRow, standIns := [], harness := (true, "06885406eea5e283d1f6c9367ef051e401cbae44b764cae69918f4f644de6e6a"), looks := false }, kinds := [], alts := [], laidByText := true, laidKinds := [.data, .data, .data, .data], laidTests := true, laidLooks := .later }
def BackGoodUptoCardSaid : Prop := Claim7.holds Tryd.pinned (.plain (OpenSpec.upto backGoodSpec)) backGoodUptoCard

/-- THE SECOND FORM's CARD OF 'tillermankeep.OthersStay'. -/
def othersStayUptoCard : Claim7 := { stood := { row := othersStayUptoRow, standIns := [], harness := (true, "06885406eea5e283d1f6c9367ef051e401cbae44b764cae69918f4f644de6e6a"), looks := false }, kinds := [], alts := [], laidByText := true, laidKinds := [.data, .data, .data, .data], laidTests := true, laidLooks := .later }
def OthersStayUptoCardSaid : Prop := Claim7.holds Tryd.pinned (.plain (OpenSpec.upto othersStaySpec)) othersStayUptoCard

/-- THE SECOND FORM's CARD OF 'tillermankeep.UndoneGone'. -/
def undoneGoneUptoCard : Claim7 := { stood := { row := undoneGoneUptoRow, standIns := [], harness := (true, "06885406eea5e283d1f6c9367ef051e401cbae44b764cae69918f4f644de6e6a"), looks := false }, kinds := [], alts := [], laidByText := true, laidKinds := [.data, .data, .data, .data], laidTests := true, laidLooks := .later }
def UndoneGoneUptoCardSaid : Prop := Claim7.holds Tryd.pinned (.plain (OpenSpec.upto undoneGoneSpec)) undoneGoneUptoCard

/-- THE SECOND FORM's CARD OF 'tillermankeep.CommitsShow'. -/
def commitsShowUptoCard : Claim7 := { stood := { row := commitsShowUptoRow, standIns := [], harness := (true, "06885406eea5e283d1f6c9367ef051e401cbae44b764cae69918f4f644de6e6a"), looks := false }, kinds := [], alts := [], laidByText := true, laidKinds := [.data, .data, .data, .data], laidTests := true, laidLooks := .later }
def CommitsShowUptoCardSaid : Prop := Claim7.holds Tryd.pinned (.plain (OpenSpec.upto commitsShowSpec)) commitsShowUptoCard

/-- THE SECOND FORM's CARD OF 'tillermankeep.PrepsRun'. -/
def prepsRunUptoCard : Claim7 := { stood := { row := prepsRunUptoRow, standIns := [], harness := (true, "06885406eea5e283d1f6c9367ef051e401cbae44b764cae69918f4f644de6e6a"), looks := false }, kinds := [], alts := [], laidByText := true, laidKinds := [.data, .data, .data, .data], laidTests := true, laidLooks := .later }
def PrepsRunUptoCardSaid : Prop := Claim7.holds Tryd.pinned (.plain (OpenSpec.upto prepsRunSpec)) prepsRunUptoCard
end Rows
end Go.Proofs.YtpbaobmegomfpabDoor
