/-
  No cell of these rows narrows 'for every input' (looked for: loops, veiled, ifaces, maps, wideKeys, modest, calm, conditions, laid).
  DERIVED. THE GIVEN ROWS OF THIS SEAT. 3 by the template 'for every input the law returns true; each argument reads behind the call as it read before'; 0 by the template 'total and deterministic' (their statements: YtheliihkkoohnaaGreatTotals.lean).
  GIVEN WITH THE SEED: the statements are not yours to turn. If you find one false, say at which input.
  Laid BY PROGRAM, IN A SANDBOX (cutbox-rows.mjs): the forced cells as the released guide's own fill.sh prints them over the translation 07ee07c2962da9df… (all of the seat's roots in one cut). By AI agents, Wed Nov 11 2026. No macro, syntax, notation, axiom, sorry.
-/
import Derived.Test.YtheliihkkoohnaaGreatChecked
import GoSem.Claim
import GoSem.ClaimJoined
import GoSem.ClaimMapViews
import Derived.JoinedTies
import Derived.KernelRfl
namespace Go.Proofs.YtheliihkkoohnaaGreat
/- THE CELL 'sum', in the pinned program and in every row, IS THE sha256 OF THE DUMP (.gsa) THAT YtheliihkkoohnaaGreatProg.lean LOADS. Nothing in Lean hashes anything: it is a label: what it is worth is what the hold of that sum in a sandbox is worth. -/
noncomputable def Tryz.pinned : Pinned := { name := "ytheliihkkoohnaagreat", sum := "07ee07c2962da9dfa476ffac35f407e08f59c54cb5738acd9bce39d377db3579", checked := Tryz.checked }
namespace Rows
def none {H : Type} : Left H := { results := [], args := [] }

/-- 'vernierlaw13.FuseFmas': WHATEVER THE INPUT: true; the input reads as it did. -/
def fuseFmasSpec : ChangeSpec := { name := "fuseFmas", fn := fun _ => fun
  | [d1, d2, d3, d4] => { results := [.lit (.bool true)], args := [d1, d2, d3, d4] }
  | _ => none }
def fuseFmasRow : OpenClaim := { program := "ytheliihkkoohnaagreat", sum := "07ee07c2962da9dfa476ffac35f407e08f59c54cb5738acd9bce39d377db3579", func := "vernier/vernierlaw13.FuseFmas", spec := "fuseFmas", inPlace := ["math/bits.Add64", "math/bits.Sub64"], recurses := true, apart := false }
def FuseFmasSaid : Prop := fuseFmasRow.holds Tryz.pinned (OpenSpec.ofChange fuseFmasSpec)

/-- ITS FALSE NEIGHBOUR: 'it returns false'. Refute it at one input. -/
def fuseFmasWrong : ChangeSpec := { name := "fuseFmas", fn := fun _ => fun
  | [d1, d2, d3, d4] => { results := [.lit (.bool false)], args := [d1, d2, d3, d4] }
  | _ => none }
def FuseFmasWrongFalsely : Prop := fuseFmasRow.holds Tryz.pinned (OpenSpec.ofChange fuseFmasWrong)

/-- 'vernierlaw13.FusePairs': WHATEVER THE INPUT: true; the input reads as it did. -/
def fusePairsSpec : ChangeSpec := { name := "fusePairs", fn := fun _ => fun
  | [d1, d2, d3, d4, d5] => { results := [.lit (.bool true)], args := [d1, d2, d3, d4, d5] }
  | _ => none }
def fusePairsRow : OpenClaim := { program := "ytheliihkkoohnaagreat", sum := "07ee07c2962da9dfa476ffac35f407e08f59c54cb5738acd9bce39d377db3579", func := "vernier/vernierlaw13.FusePairs", spec := "fusePairs", inPlace := ["math/bits.Add64", "math/bits.Sub64"], recurses := true, apart := false }
def FusePairsSaid : Prop := fusePairsRow.holds Tryz.pinned (OpenSpec.ofChange fusePairsSpec)

/-- ITS FALSE NEIGHBOUR: 'it returns false'. Refute it at one input. -/
def fusePairsWrong : ChangeSpec := { name := "fusePairs", fn := fun _ => fun
  | [d1, d2, d3, d4, d5] => { results := [.lit (.bool false)], args := [d1, d2, d3, d4, d5] }
  | _ => none }
def FusePairsWrongFalsely : Prop := fusePairsRow.holds Tryz.pinned (OpenSpec.ofChange fusePairsWrong)

/-- 'vernierlaw13.FuseHypots': WHATEVER THE INPUT: true; the input reads as it did. -/
def fuseHypotsSpec : ChangeSpec := { name := "fuseHypots", fn := fun _ => fun
  | [d1, d2, d3] => { results := [.lit (.bool true)], args := [d1, d2, d3] }
  | _ => none }
def fuseHypotsRow : OpenClaim := { program := "ytheliihkkoohnaagreat", sum := "07ee07c2962da9dfa476ffac35f407e08f59c54cb5738acd9bce39d377db3579", func := "vernier/vernierlaw13.FuseHypots", spec := "fuseHypots", inPlace := ["math/bits.Add64", "math/bits.Sub64"], recurses := true, apart := false }
def FuseHypotsSaid : Prop := fuseHypotsRow.holds Tryz.pinned (OpenSpec.ofChange fuseHypotsSpec)

/-- ITS FALSE NEIGHBOUR: 'it returns false'. Refute it at one input. -/
def fuseHypotsWrong : ChangeSpec := { name := "fuseHypots", fn := fun _ => fun
  | [d1, d2, d3] => { results := [.lit (.bool false)], args := [d1, d2, d3] }
  | _ => none }
def FuseHypotsWrongFalsely : Prop := fuseHypotsRow.holds Tryz.pinned (OpenSpec.ofChange fuseHypotsWrong)

/- THE SECOND FORM. 'bulk': how many values and letters a reading holds, each counted each time it is reached (what is shared counts as often as it is met; a slice's spare places count too). A statement '..UptoSaid' is the law's where the arguments, and the package variables that the reading takes, are together of bulk at most 1048576: NARROWER than '..Said'. Prove '..Said' where nothing that the law and all that it calls make is longer than what came in: it says more and counts as full. Else prove '..UptoSaid'. A law counts once. -/
mutual
def uptoBulk {H : Type} : DataW H → Nat
  | .lit (.string bytes) => bytes.length + 1
  | .lit _ => 1
  | .nil => 1
  | .ptr d => uptoBulk d + 1
  | .slice elems spare => uptoBulkAll elems + uptoBulkAll spare + 1
  | .agg parts => uptoBulkAll parts + 1
  | .iface _ d => uptoBulk d + 1
  | .map entries => uptoBulkEntries entries + 1
  | .held _ => 1
def uptoBulkAll {H : Type} : List (DataW H) → Nat
  | [] => 0
  | d :: r => uptoBulk d + uptoBulkAll r
def uptoBulkEntries {H : Type} : List (Lit × DataW H) → Nat
  | [] => 0
  | x :: r => uptoBulkEntry x + uptoBulkEntries r
def uptoBulkEntry {H : Type} : Lit × DataW H → Nat
  | (.string bytes, d) => bytes.length + uptoBulk d + 1
  | (_, d) => uptoBulk d + 1
 end
def uptoSmall : (H : Type) → List (DataW H) → Bool := fun _ ds => decide (uptoBulkAll ds ≤ 1048576)
def OpenSpec.upto (s : _root_.Go.ChangeSpec) : _root_.Go.OpenSpec := { _root_.Go.OpenSpec.ofChange s with cond := some uptoSmall }

/-- 'vernierlaw13.FuseFmas', WHERE WHAT IT READS IS OF BULK AT MOST 1048576: true; the input reads as it did. -/
def fuseFmasUptoRow : OpenClaim := { program := "ytheliihkkoohnaagreat", sum := "07ee07c2962da9dfa476ffac35f407e08f59c54cb5738acd9bce39d377db3579", func := "vernier/vernierlaw13.FuseFmas", spec := "fuseFmas", inPlace := ["math/bits.Add64", "math/bits.Sub64"], recurses := true, apart := false, narrowed := true }
def FuseFmasUptoSaid : Prop := fuseFmasUptoRow.holds Tryz.pinned (OpenSpec.upto fuseFmasSpec)

/-- 'vernierlaw13.FusePairs', WHERE WHAT IT READS IS OF BULK AT MOST 1048576: true; the input reads as it did. -/
def fusePairsUptoRow : OpenClaim := { program := "ytheliihkkoohnaagreat", sum := "07ee07c2962da9dfa476ffac35f407e08f59c54cb5738acd9bce39d377db3579", func := "vernier/vernierlaw13.FusePairs", spec := "fusePairs", inPlace := ["math/bits.Add64", "math/bits.Sub64"], recurses := true, apart := false, narrowed := true }
def FusePairsUptoSaid : Prop := fusePairsUptoRow.holds Tryz.pinned (OpenSpec.upto fusePairsSpec)

/-- 'vernierlaw13.FuseHypots', WHERE WHAT IT READS IS OF BULK AT MOST 1048576: true; the input reads as it did. -/
def fuseHypotsUptoRow : OpenClaim := { program := "ytheliihkkoohnaagreat", sum := "07ee07c2962da9dfa476ffac35f407e08f59c54cb5738acd9bce39d377db3579", func := "vernier/vernierlaw13.FuseHypots", spec := "fuseHypots", inPlace := ["math/bits.Add64", "math/bits.Sub64"], recurses := true, apart := false, narrowed := true }
def FuseHypotsUptoSaid : Prop := fuseHypotsUptoRow.holds Tryz.pinned (OpenSpec.upto fuseHypotsSpec)

end Rows
end Go.Proofs.YtheliihkkoohnaaGreat
