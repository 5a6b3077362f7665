/-
  DERIVED. GIVEN WITH THE SEED: THE CARDS: each row of YtcdmmblnfdenfaaDoorRows.lean that lists a variable, with what it lists TIED to the program's text (the seventh form; the later family's looks); each row that meets fmt, with fmt's text TOLD by the authors' own Lean function (tested against real Go, not proved from fmt's source: count such statements apart). THE CARD IS WHAT COUNTS. Prove the row's statement (the work); the ties are given (YtcdmmblnfdenfaaDoorTie.lean); close each card by the builder's one call (the guide's Derived/Test/ToyasCard.lean, 'card_holds'). Laid BY PROGRAM, IN A SANDBOX (cutbox-door.mjs). By AI agents, Wed Nov 11 2026. No macro, syntax, notation, axiom, sorry.
-/
import Derived.Test.YtcdmmblnfdenfaaDoorRows
import GoSem.ClaimSeven
namespace Go.Proofs.YtcdmmblnfdenfaaDoor
namespace Rows

/-- THE TIED CARD OF 'vernierlaw04.NatOf'. -/
def natOfCard : Claim7 := { stood := { row := natOfRow, standIns := [], harness := (true, "e22032caa0ecea7d9ba662ffbdf99e3d015cde5cce7affa9ce487cd4149ecd2c"), looks := true }, kinds := [], alts := [], laidByText := true, laidKinds := [.data, .pinned], laidTests := true, laidLooks := .later }
def NatOfCardSaid : Prop := Claim7.holds Tryd.pinned (.plain (OpenSpec.ofChange natOfSpec)) natOfCard

/-- THE TIED CARD OF 'vernierlaw04.NatAdds'. -/
def natAddsCard : Claim7 := { stood := { row := natAddsRow, standIns := [], harness := (true, "e22032caa0ecea7d9ba662ffbdf99e3d015cde5cce7affa9ce487cd4149ecd2c"), looks := true }, kinds := [], alts := [], laidByText := true, laidKinds := [.data, .pinned], laidTests := true, laidLooks := .later }
def NatAddsCardSaid : Prop := Claim7.holds Tryd.pinned (.plain (OpenSpec.ofChange natAddsSpec)) natAddsCard

/-- THE TIED CARD OF 'vernierlaw04.NatSubs'. -/
def natSubsCard : Claim7 := { stood := { row := natSubsRow, standIns := [], harness := (true, "e22032caa0ecea7d9ba662ffbdf99e3d015cde5cce7affa9ce487cd4149ecd2c"), looks := true }, kinds := [], alts := [], laidByText := true, laidKinds := [.data, .pinned], laidTests := true, laidLooks := .later }
def NatSubsCardSaid : Prop := Claim7.holds Tryd.pinned (.plain (OpenSpec.ofChange natSubsSpec)) natSubsCard

/-- THE TIED CARD OF 'vernierlaw04.NatDivs'. -/
def natDivsCard : Claim7 := { stood := { row := natDivsRow, standIns := [], harness := (true, "e22032caa0ecea7d9ba662ffbdf99e3d015cde5cce7affa9ce487cd4149ecd2c"), looks := true }, kinds := [], alts := [], laidByText := true, laidKinds := [.data, .pinned], laidTests := true, laidLooks := .later }
def NatDivsCardSaid : Prop := Claim7.holds Tryd.pinned (.plain (OpenSpec.ofChange natDivsSpec)) natDivsCard

/-- THE TIED CARD OF 'vernierlaw04.NatShifts'. -/
def natShiftsCard : Claim7 := { stood := { row := natShiftsRow, standIns := [], harness := (true, "e22032caa0ecea7d9ba662ffbdf99e3d015cde5cce7affa9ce487cd4149ecd2c"), looks := true }, kinds := [], alts := [], laidByText := true, laidKinds := [.data, .pinned], laidTests := true, laidLooks := .later }
def NatShiftsCardSaid : Prop := Claim7.holds Tryd.pinned (.plain (OpenSpec.ofChange natShiftsSpec)) natShiftsCard

/-- THE TIED CARD OF 'vernierlaw04.NatTops'. -/
def natTopsCard : Claim7 := { stood := { row := natTopsRow, standIns := [], harness := (true, "e22032caa0ecea7d9ba662ffbdf99e3d015cde5cce7affa9ce487cd4149ecd2c"), looks := true }, kinds := [], alts := [], laidByText := true, laidKinds := [.data, .pinned], laidTests := true, laidLooks := .later }
def NatTopsCardSaid : Prop := Claim7.holds Tryd.pinned (.plain (OpenSpec.ofChange natTopsSpec)) natTopsCard

/-- THE SECOND FORM's CARD OF 'vernierlaw04.NatOf'. -/
def natOfUptoCard : Claim7 := { stood := { row := natOfUptoRow, standIns := [], harness := (true, "e22032caa0ecea7d9ba662ffbdf99e3d015cde5cce7affa9ce487cd4149ecd2c"), looks := true }, kinds := [], alts := [], laidByText := true, laidKinds := [.data, .pinned], laidTests := true, laidLooks := .later }
def NatOfUptoCardSaid : Prop := Claim7.holds Tryd.pinned (.plain (OpenSpec.upto natOfSpec)) natOfUptoCard

/-- THE SECOND FORM's CARD OF 'vernierlaw04.NatAdds'. -/
def natAddsUptoCard : Claim7 := { stood := { row := natAddsUptoRow, standIns := [], harness := (true, "e22032caa0ecea7d9ba662ffbdf99e3d015cde5cce7affa9ce487cd4149ecd2c"), looks := true }, kinds := [], alts := [], laidByText := true, laidKinds := [.data, .pinned], laidTests := true, laidLooks := .later }
def NatAddsUptoCardSaid : Prop := Claim7.holds Tryd.pinned (.plain (OpenSpec.upto natAddsSpec)) natAddsUptoCard

/-- THE SECOND FORM's CARD OF 'vernierlaw04.NatSubs'. -/
def natSubsUptoCard : Claim7 := { stood := { row := natSubsUptoRow, standIns := [], harness := (true, "e22032caa0ecea7d9ba662ffbdf99e3d015cde5cce7affa9ce487cd4149ecd2c"), looks := true }, kinds := [], alts := [], laidByText := true, laidKinds := [.data, .pinned], laidTests := true, laidLooks := .later }
def NatSubsUptoCardSaid : Prop := Claim7.holds Tryd.pinned (.plain (OpenSpec.upto natSubsSpec)) natSubsUptoCard

/-- THE SECOND FORM's CARD OF 'vernierlaw04.NatDivs'. -/
def natDivsUptoCard : Claim7 := { stood := { row := natDivsUptoRow, standIns := [], harness := (true, "e22032caa0ecea7d9ba662ffbdf99e3d015cde5cce7affa9ce487cd4149ecd2c"), looks := true }, kinds := [], alts := [], laidByText := true, laidKinds := [.data, .pinned], laidTests := true, laidLooks := .later }
def NatDivsUptoCardSaid : Prop := Claim7.holds Tryd.pinned (.plain (OpenSpec.upto natDivsSpec)) natDivsUptoCard

/-- THE SECOND FORM's CARD OF 'vernierlaw04.NatShifts'. -/
def natShiftsUptoCard : Claim7 := { stood := { row := natShiftsUptoRow, standIns := [], harness := (true, "e22032caa0ecea7d9ba662ffbdf99e3d015cde5cce7affa9ce487cd4149ecd2c"), looks := true }, kinds := [], alts := [], laidByText := true, laidKinds := [.data, .pinned], laidTests := true, laidLooks := .later }
def NatShiftsUptoCardSaid : Prop := Claim7.holds Tryd.pinned (.plain (OpenSpec.upto natShiftsSpec)) natShiftsUptoCard

/-- THE SECOND FORM's CARD OF 'vernierlaw04.NatTops'. -/
def natTopsUptoCard : Claim7 := { stood := { row := natTopsUptoRow, standIns := [], harness := (true, "e22032caa0ecea7d9ba662ffbdf99e3d015cde5cce7affa9ce487cd4149ecd2c"), looks := true }, kinds := [], alts := [], laidByText := true, laidKinds := [.data, .pinned], laidTests := true, laidLooks := .later }
def NatTopsUptoCardSaid : Prop := Claim7.holds Tryd.pinned (.plain (OpenSpec.upto natTopsSpec)) natTopsUptoCard
end Rows
end Go.Proofs.YtcdmmblnfdenfaaDoor
