/-
  DERIVED. GIVEN WITH THE SEED: THE CARDS: each row of YtcdmmblnfdenfabDoorRows.lean that lists a variable, with what it lists TIED to the program's text (the seventh form; the later family's looks); each row that meets fmt, with fmt's text TOLD by the authors' own Lean function (tested against real Go, not proved from fmt's source: count such statements apart). THE CARD IS WHAT COUNTS. Prove the row's statement (the work); the ties are given (YtcdmmblnfdenfabDoorTie.lean); close each card by the builder's one call (the guide's Derived/Test/ToyasCard.lean, 'card_holds'). Laid BY PROGRAM, IN A SANDBOX (cutbox-door.mjs). By AI agents, Wed Nov 11 2026. No macro, syntax, notation, axiom, sorry.
-/
import Derived.Test.YtcdmmblnfdenfabDoorRows
import GoSem.ClaimSeven
namespace Go.Proofs.YtcdmmblnfdenfabDoor
namespace Rows

/-- THE TIED CARD OF 'vernierlaw04.NatTens'. -/
def natTensCard : Claim7 := { stood := { row := natTensRow, standIns := [], harness := (true, "043e52cf6ca63c02e534ada7d1f52e3cd7caba9470bbab401b40899d4e19081f"), looks := true }, kinds := [], alts := [], laidByText := true, laidKinds := [.data, .pinned], laidTests := true, laidLooks := .later }
def NatTensCardSaid : Prop := Claim7.holds Tryd.pinned (.plain (OpenSpec.ofChange natTensSpec)) natTensCard

/-- THE TIED CARD OF 'vernierlaw04.NatTexts'. -/
def natTextsCard : Claim7 := { stood := { row := natTextsRow, standIns := [], harness := (true, "043e52cf6ca63c02e534ada7d1f52e3cd7caba9470bbab401b40899d4e19081f"), looks := true }, kinds := [], alts := [], laidByText := true, laidKinds := [.data, .pinned], laidTests := true, laidLooks := .later }
def NatTextsCardSaid : Prop := Claim7.holds Tryd.pinned (.plain (OpenSpec.ofChange natTextsSpec)) natTextsCard

/-- THE TIED CARD OF 'vernierlaw04.NatDivBack'. -/
def natDivBackCard : Claim7 := { stood := { row := natDivBackRow, standIns := [], harness := (true, "043e52cf6ca63c02e534ada7d1f52e3cd7caba9470bbab401b40899d4e19081f"), looks := true }, kinds := [], alts := [], laidByText := true, laidKinds := [.data, .pinned], laidTests := true, laidLooks := .later }
def NatDivBackCardSaid : Prop := Claim7.holds Tryd.pinned (.plain (OpenSpec.ofChange natDivBackSpec)) natDivBackCard

/-- THE TIED CARD OF 'vernierlaw04.NatTextBack'. -/
def natTextBackCard : Claim7 := { stood := { row := natTextBackRow, standIns := [], harness := (true, "043e52cf6ca63c02e534ada7d1f52e3cd7caba9470bbab401b40899d4e19081f"), looks := true }, kinds := [], alts := [], laidByText := true, laidKinds := [.data, .data, .data, .data, .sentinel, .sentinel, .pinned], laidTests := true, laidLooks := .later }
def NatTextBackCardSaid : Prop := Claim7.holds Tryd.pinned (.plain (OpenSpec.ofChange natTextBackSpec)) natTextBackCard

/-- THE TIED CARD OF 'vernierlaw04.NatShiftBack'. -/
def natShiftBackCard : Claim7 := { stood := { row := natShiftBackRow, standIns := [], harness := (true, "043e52cf6ca63c02e534ada7d1f52e3cd7caba9470bbab401b40899d4e19081f"), looks := true }, kinds := [], alts := [], laidByText := true, laidKinds := [.data, .pinned], laidTests := true, laidLooks := .later }
def NatShiftBackCardSaid : Prop := Claim7.holds Tryd.pinned (.plain (OpenSpec.ofChange natShiftBackSpec)) natShiftBackCard

/-- THE SECOND FORM's CARD OF 'vernierlaw04.NatTens'. -/
def natTensUptoCard : Claim7 := { stood := { row := natTensUptoRow, standIns := [], harness := (true, "043e52cf6ca63c02e534ada7d1f52e3cd7caba9470bbab401b40899d4e19081f"), looks := true }, kinds := [], alts := [], laidByText := true, laidKinds := [.data, .pinned], laidTests := true, laidLooks := .later }
def NatTensUptoCardSaid : Prop := Claim7.holds Tryd.pinned (.plain (OpenSpec.upto natTensSpec)) natTensUptoCard

/-- THE SECOND FORM's CARD OF 'vernierlaw04.NatTexts'. -/
def natTextsUptoCard : Claim7 := { stood := { row := natTextsUptoRow, standIns := [], harness := (true, "043e52cf6ca63c02e534ada7d1f52e3cd7caba9470bbab401b40899d4e19081f"), looks := true }, kinds := [], alts := [], laidByText := true, laidKinds := [.data, .pinned], laidTests := true, laidLooks := .later }
def NatTextsUptoCardSaid : Prop := Claim7.holds Tryd.pinned (.plain (OpenSpec.upto natTextsSpec)) natTextsUptoCard

/-- THE SECOND FORM's CARD OF 'vernierlaw04.NatDivBack'. -/
def natDivBackUptoCard : Claim7 := { stood := { row := natDivBackUptoRow, standIns := [], harness := (true, "043e52cf6ca63c02e534ada7d1f52e3cd7caba9470bbab401b40899d4e19081f"), looks := true }, kinds := [], alts := [], laidByText := true, laidKinds := [.data, .pinned], laidTests := true, laidLooks := .later }
def NatDivBackUptoCardSaid : Prop := Claim7.holds Tryd.pinned (.plain (OpenSpec.upto natDivBackSpec)) natDivBackUptoCard

/-- THE SECOND FORM's CARD OF 'vernierlaw04.NatTextBack'. -/
def natTextBackUptoCard : Claim7 := { stood := { row := natTextBackUptoRow, standIns := [], harness := (true, "043e52cf6ca63c02e534ada7d1f52e3cd7caba9470bbab401b40899d4e19081f"), looks := true }, kinds := [], alts := [], laidByText := true, laidKinds := [.data, .data, .data, .data, .sentinel, .sentinel, .pinned], laidTests := true, laidLooks := .later }
def NatTextBackUptoCardSaid : Prop := Claim7.holds Tryd.pinned (.plain (OpenSpec.upto natTextBackSpec)) natTextBackUptoCard

/-- THE SECOND FORM's CARD OF 'vernierlaw04.NatShiftBack'. -/
def natShiftBackUptoCard : Claim7 := { stood := { row := natShiftBackUptoRow, standIns := [], harness := (true, "043e52cf6ca63c02e534ada7d1f52e3cd7caba9470bbab401b40899d4e19081f"), looks := true }, kinds := [], alts := [], laidByText := true, laidKinds := [.data, .pinned], laidTests := true, laidLooks := .later }
def NatShiftBackUptoCardSaid : Prop := Claim7.holds Tryd.pinned (.plain (OpenSpec.upto natShiftBackSpec)) natShiftBackUptoCard
end Rows
end Go.Proofs.YtcdmmblnfdenfabDoor
