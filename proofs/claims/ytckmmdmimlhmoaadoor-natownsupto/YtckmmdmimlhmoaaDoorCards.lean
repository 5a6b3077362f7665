/-
  DERIVED. GIVEN WITH THE SEED: THE CARDS: each row of YtckmmdmimlhmoaaDoorRows.lean that lists a variable, with what it lists TIED to the program's text (the seventh form; the later family's looks); each row that meets fmt, with fmt's text TOLD by the authors' own Lean function (tested against real Go, not proved from fmt's source: count such statements apart). THE CARD IS WHAT COUNTS. Prove the row's statement (the work); the ties are given (YtckmmdmimlhmoaaDoorTie.lean); close each card by the builder's one call (the guide's Derived/Test/ToyasCard.lean, 'card_holds'). Laid BY PROGRAM, IN A SANDBOX (cutbox-door.mjs). By AI agents, Wed Nov 11 2026. No macro, syntax, notation, axiom, sorry.
-/
import Derived.Test.YtckmmdmimlhmoaaDoorRows
import GoSem.ClaimSeven
namespace Go.Proofs.YtckmmdmimlhmoaaDoor
namespace Rows

/-- THE TIED CARD OF 'vernierlaw04.NatOwns'. -/
def natOwnsCard : Claim7 := { stood := { row := natOwnsRow, standIns := [], harness := (true, "99d1e3519da2d44fa6eabd3076ee9b88435ffe8e6459f2cef23e0adf84f40575"), looks := true }, kinds := [], alts := [], laidByText := true, laidKinds := [.data, .pinned], laidTests := true, laidLooks := .later }
def NatOwnsCardSaid : Prop := Claim7.holds Tryd.pinned (.plain (OpenSpec.ofChange natOwnsSpec)) natOwnsCard

/-- THE SECOND FORM's CARD OF 'vernierlaw04.NatOwns'. -/
def natOwnsUptoCard : Claim7 := { stood := { row := natOwnsUptoRow, standIns := [], harness := (true, "99d1e3519da2d44fa6eabd3076ee9b88435ffe8e6459f2cef23e0adf84f40575"), looks := true }, kinds := [], alts := [], laidByText := true, laidKinds := [.data, .pinned], laidTests := true, laidLooks := .later }
def NatOwnsUptoCardSaid : Prop := Claim7.holds Tryd.pinned (.plain (OpenSpec.upto natOwnsSpec)) natOwnsUptoCard
end Rows
end Go.Proofs.YtckmmdmimlhmoaaDoor
