/-
  DERIVED. GIVEN WITH THE SEED: THE CARDS: each row of YthchcocolclpoaaGreatDoorRows.lean that lists a variable, with what it lists TIED to the program's text (the seventh form; the later family's looks); each row that meets fmt, with fmt's text TOLD by the authors' own Lean function (tested against real Go, not proved from fmt's source: count such statements apart). THE CARD IS WHAT COUNTS. Prove the row's statement (the work); the ties are given (YthchcocolclpoaaGreatDoorTie.lean); close each card by the builder's one call (the guide's Derived/Test/ToyasCard.lean, 'card_holds'). Laid BY PROGRAM, IN A SANDBOX (cutbox-door.mjs). By AI agents, Wed Nov 11 2026. No macro, syntax, notation, axiom, sorry.
-/
import Derived.Test.YthchcocolclpoaaGreatDoorRows
import GoSem.ClaimSeven
namespace Go.Proofs.YthchcocolclpoaaGreatDoor
namespace Rows

/-- THE TIED CARD OF 'vernierlaw04.NatReads'. -/
def natReadsCard : Claim7 := { stood := { row := natReadsRow, standIns := [], harness := (true, "67c40d6cb780b4b8a03063370048d88806a2d111a1db3b327b8739753bbc8fe8"), looks := true }, kinds := [], alts := [], laidByText := true, laidKinds := [.data, .data, .data, .data, .handle, .sentinel, .sentinel, .pinned], laidTests := true, laidLooks := .later }
def NatReadsCardSaid : Prop := Claim7.holds Tryz.pinned (.plain (OpenSpec.ofChange natReadsSpec)) natReadsCard

/-- THE SECOND FORM's CARD OF 'vernierlaw04.NatReads'. -/
def natReadsUptoCard : Claim7 := { stood := { row := natReadsUptoRow, standIns := [], harness := (true, "67c40d6cb780b4b8a03063370048d88806a2d111a1db3b327b8739753bbc8fe8"), looks := true }, kinds := [], alts := [], laidByText := true, laidKinds := [.data, .data, .data, .data, .handle, .sentinel, .sentinel, .pinned], laidTests := true, laidLooks := .later }
def NatReadsUptoCardSaid : Prop := Claim7.holds Tryz.pinned (.plain (OpenSpec.upto natReadsSpec)) natReadsUptoCard
end Rows
end Go.Proofs.YthchcocolclpoaaGreatDoor
