/-
  DERIVED. GIVEN WITH THE SEED: THE CARDS: each row of YthchcocolclpoaaDoorRows.lean that lists a variable, with what it lists TIED to the program's text (the seventh form; the later family's looks); each row that meets fmt, with fmt's text TOLD by the authors' own Lean function (tested against real Go, not proved from fmt's source: count such statements apart). THE CARD IS WHAT COUNTS. Prove the row's statement (the work); the ties are given (YthchcocolclpoaaDoorTie.lean); close each card by the builder's one call (the guide's Derived/Test/ToyasCard.lean, 'card_holds'). Laid BY PROGRAM, IN A SANDBOX (cutbox-door.mjs). By AI agents, Wed Nov 11 2026. No macro, syntax, notation, axiom, sorry.
-/
import Derived.Test.YthchcocolclpoaaDoorRows
import GoSem.ClaimSeven
namespace Go.Proofs.YthchcocolclpoaaDoor
namespace Rows

/-- THE TIED CARD OF 'vernierlaw04.NatTens'. -/
def natTensCard : Claim7 := { stood := { row := natTensRow, standIns := [], harness := (true, "d11b6b9645ac3f796021bac79633d1e7d4bd772dd3b70d39350e907a4cce2a6b"), looks := true }, kinds := [], alts := [], laidByText := true, laidKinds := [.data, .pinned], laidTests := true, laidLooks := .later }
def NatTensCardSaid : Prop := Claim7.holds Tryd.pinned (.plain (OpenSpec.ofChange natTensSpec)) natTensCard

/-- THE TIED CARD OF 'vernierlaw04.NatTextBack'. -/
def natTextBackCard : Claim7 := { stood := { row := natTextBackRow, standIns := [], harness := (true, "d11b6b9645ac3f796021bac79633d1e7d4bd772dd3b70d39350e907a4cce2a6b"), looks := true }, kinds := [], alts := [], laidByText := true, laidKinds := [.data, .data, .data, .data, .sentinel, .sentinel, .pinned], laidTests := true, laidLooks := .later }
def NatTextBackCardSaid : Prop := Claim7.holds Tryd.pinned (.plain (OpenSpec.ofChange natTextBackSpec)) natTextBackCard

/-- THE TIED CARD OF 'vernierlaw04.NatOwns'. -/
def natOwnsCard : Claim7 := { stood := { row := natOwnsRow, standIns := [], harness := (true, "d11b6b9645ac3f796021bac79633d1e7d4bd772dd3b70d39350e907a4cce2a6b"), looks := true }, kinds := [], alts := [], laidByText := true, laidKinds := [.data, .pinned], laidTests := true, laidLooks := .later }
def NatOwnsCardSaid : Prop := Claim7.holds Tryd.pinned (.plain (OpenSpec.ofChange natOwnsSpec)) natOwnsCard

/-- THE SECOND FORM's CARD OF 'vernierlaw04.NatTens'. -/
def natTensUptoCard : Claim7 := { stood := { row := natTensUptoRow, standIns := [], harness := (true, "d11b6b9645ac3f796021bac79633d1e7d4bd772dd3b70d39350e907a4cce2a6b"), looks := true }, kinds := [], alts := [], laidByText := true, laidKinds := [.data, .pinned], laidTests := true, laidLooks := .later }
def NatTensUptoCardSaid : Prop := Claim7.holds Tryd.pinned (.plain (OpenSpec.upto natTensSpec)) natTensUptoCard

/-- THE SECOND FORM's CARD OF 'vernierlaw04.NatTextBack'. -/
def natTextBackUptoCard : Claim7 := { stood := { row := natTextBackUptoRow, standIns := [], harness := (true, "d11b6b9645ac3f796021bac79633d1e7d4bd772dd3b70d39350e907a4cce2a6b"), looks := true }, kinds := [], alts := [], laidByText := true, laidKinds := [.data, .data, .data, .data, .sentinel, .sentinel, .pinned], laidTests := true, laidLooks := .later }
def NatTextBackUptoCardSaid : Prop := Claim7.holds Tryd.pinned (.plain (OpenSpec.upto natTextBackSpec)) natTextBackUptoCard

/-- THE SECOND FORM's CARD OF 'vernierlaw04.NatOwns'. -/
def natOwnsUptoCard : Claim7 := { stood := { row := natOwnsUptoRow, standIns := [], harness := (true, "d11b6b9645ac3f796021bac79633d1e7d4bd772dd3b70d39350e907a4cce2a6b"), looks := true }, kinds := [], alts := [], laidByText := true, laidKinds := [.data, .pinned], laidTests := true, laidLooks := .later }
def NatOwnsUptoCardSaid : Prop := Claim7.holds Tryd.pinned (.plain (OpenSpec.upto natOwnsSpec)) natOwnsUptoCard
end Rows
end Go.Proofs.YthchcocolclpoaaDoor
