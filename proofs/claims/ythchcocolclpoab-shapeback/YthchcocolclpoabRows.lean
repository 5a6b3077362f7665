/-
  No cell of these rows narrows 'for every input' (looked for: loops, veiled, ifaces, maps, wideKeys, modest, calm, conditions, laid).
  DERIVED. THE GIVEN ROWS OF THIS SEAT. 3 by the template 'for every input the law returns true; each argument reads behind the call as it read before'; 0 by the template 'total and deterministic' (their statements: YthchcocolclpoabTotals.lean).
  GIVEN WITH THE SEED: the statements are not yours to turn. If you find one false, say at which input.
  Laid BY PROGRAM, IN A SANDBOX (cutbox-rows.mjs): the forced cells as the released guide's own fill.sh prints them over the translation 77341edbd542e2ab… (all of the seat's roots in one cut). By AI agents, Wed Nov 11 2026. No macro, syntax, notation, axiom, sorry.
-/
import Derived.Test.YthchcocolclpoabChecked
import GoSem.Claim
import GoSem.ClaimJoined
import GoSem.ClaimMapViews
import Derived.JoinedTies
import Derived.KernelRfl
namespace Go.Proofs.Ythchcocolclpoab
/- THE CELL 'sum', in the pinned program and in every row, IS THE sha256 OF THE DUMP (.gsa) THAT YthchcocolclpoabProg.lean LOADS. Nothing in Lean hashes anything: it is a label: what it is worth is what the hold of that sum in a sandbox is worth. -/
noncomputable def Try.pinned : Pinned := { name := "ythchcocolclpoab", sum := "77341edbd542e2ab2f89e053772d198f6a1e27ccb2a3f2fc85b4ec54ce1ff24e", checked := Try.checked }
namespace Rows
def none {H : Type} : Left H := { results := [], args := [] }

/-- 'vernierlaw05.ShapeRanks': WHATEVER THE INPUT: true; the input reads as it did. -/
def shapeRanksSpec : ChangeSpec := { name := "shapeRanks", fn := fun _ => fun
  | [d1, d2] => { results := [.lit (.bool true)], args := [d1, d2] }
  | _ => none }
def shapeRanksRow : OpenClaim := { program := "ythchcocolclpoab", sum := "77341edbd542e2ab2f89e053772d198f6a1e27ccb2a3f2fc85b4ec54ce1ff24e", func := "vernier/vernierlaw05.ShapeRanks", spec := "shapeRanks", apart := false }
def ShapeRanksSaid : Prop := shapeRanksRow.holds Try.pinned (OpenSpec.ofChange shapeRanksSpec)

/-- ITS FALSE NEIGHBOUR: 'it returns false'. Refute it at one input. -/
def shapeRanksWrong : ChangeSpec := { name := "shapeRanks", fn := fun _ => fun
  | [d1, d2] => { results := [.lit (.bool false)], args := [d1, d2] }
  | _ => none }
def ShapeRanksWrongFalsely : Prop := shapeRanksRow.holds Try.pinned (OpenSpec.ofChange shapeRanksWrong)

/-- 'vernierlaw05.ShapePatterns': WHATEVER THE INPUT: true; the input reads as it did. -/
def shapePatternsSpec : ChangeSpec := { name := "shapePatterns", fn := fun _ => fun
  | [d1, d2] => { results := [.lit (.bool true)], args := [d1, d2] }
  | _ => none }
def shapePatternsRow : OpenClaim := { program := "ythchcocolclpoab", sum := "77341edbd542e2ab2f89e053772d198f6a1e27ccb2a3f2fc85b4ec54ce1ff24e", func := "vernier/vernierlaw05.ShapePatterns", spec := "shapePatterns", apart := false }
def ShapePatternsSaid : Prop := shapePatternsRow.holds Try.pinned (OpenSpec.ofChange shapePatternsSpec)

/-- ITS FALSE NEIGHBOUR: 'it returns false'. Refute it at one input. -/
def shapePatternsWrong : ChangeSpec := { name := "shapePatterns", fn := fun _ => fun
  | [d1, d2] => { results := [.lit (.bool false)], args := [d1, d2] }
  | _ => none }
def ShapePatternsWrongFalsely : Prop := shapePatternsRow.holds Try.pinned (OpenSpec.ofChange shapePatternsWrong)

/-- 'vernierlaw05.ShapeBack': WHATEVER THE INPUT: true; the input reads as it did. -/
def shapeBackSpec : ChangeSpec := { name := "shapeBack", fn := fun _ => fun
  | [d1, d2, d3] => { results := [.lit (.bool true)], args := [d1, d2, d3] }
  | _ => none }
def shapeBackRow : OpenClaim := { program := "ythchcocolclpoab", sum := "77341edbd542e2ab2f89e053772d198f6a1e27ccb2a3f2fc85b4ec54ce1ff24e", func := "vernier/vernierlaw05.ShapeBack", spec := "shapeBack", apart := false }
def ShapeBackSaid : Prop := shapeBackRow.holds Try.pinned (OpenSpec.ofChange shapeBackSpec)

/-- ITS FALSE NEIGHBOUR: 'it returns false'. Refute it at one input. -/
def shapeBackWrong : ChangeSpec := { name := "shapeBack", fn := fun _ => fun
  | [d1, d2, d3] => { results := [.lit (.bool false)], args := [d1, d2, d3] }
  | _ => none }
def ShapeBackWrongFalsely : Prop := shapeBackRow.holds Try.pinned (OpenSpec.ofChange shapeBackWrong)

/- THE SECOND FORM. 'bulk': how many values and letters a reading holds, each counted each time it is reached (what is shared counts as often as it is met; a slice's spare places count too). A statement '..UptoSaid' is the law's where the arguments, and the package variables that the reading takes, are together of bulk at most 1048576: NARROWER than '..Said'. Prove '..Said' where nothing that the law and all that it calls make is longer than what came in: it says more and counts as full. Else prove '..UptoSaid'. A law counts once. -/
mutual
def uptoBulk {H : Type} : DataW H → Nat
  | .lit (.string bytes) => bytes.length + 1
  | .lit _ => 1
  | .nil => 1
  | .ptr d => uptoBulk d + 1
  | .slice elems spare => uptoBulkAll elems + uptoBulkAll spare + 1
  | .agg parts => uptoBulkAll parts + 1
  | .iface _ d => uptoBulk d + 1
  | .map entries => uptoBulkEntries entries + 1
  | .held _ => 1
def uptoBulkAll {H : Type} : List (DataW H) → Nat
  | [] => 0
  | d :: r => uptoBulk d + uptoBulkAll r
def uptoBulkEntries {H : Type} : List (Lit × DataW H) → Nat
  | [] => 0
  | x :: r => uptoBulkEntry x + uptoBulkEntries r
def uptoBulkEntry {H : Type} : Lit × DataW H → Nat
  | (.string bytes, d) => bytes.length + uptoBulk d + 1
  | (_, d) => uptoBulk d + 1
 end
def uptoSmall : (H : Type) → List (DataW H) → Bool := fun _ ds => decide (uptoBulkAll ds ≤ 1048576)
def OpenSpec.upto (s : _root_.Go.ChangeSpec) : _root_.Go.OpenSpec := { _root_.Go.OpenSpec.ofChange s with cond := some uptoSmall }

/-- 'vernierlaw05.ShapeRanks', WHERE WHAT IT READS IS OF BULK AT MOST 1048576: true; the input reads as it did. -/
def shapeRanksUptoRow : OpenClaim := { program := "ythchcocolclpoab", sum := "77341edbd542e2ab2f89e053772d198f6a1e27ccb2a3f2fc85b4ec54ce1ff24e", func := "vernier/vernierlaw05.ShapeRanks", spec := "shapeRanks", apart := false, narrowed := true }
def ShapeRanksUptoSaid : Prop := shapeRanksUptoRow.holds Try.pinned (OpenSpec.upto shapeRanksSpec)

/-- 'vernierlaw05.ShapePatterns', WHERE WHAT IT READS IS OF BULK AT MOST 1048576: true; the input reads as it did. -/
def shapePatternsUptoRow : OpenClaim := { program := "ythchcocolclpoab", sum := "77341edbd542e2ab2f89e053772d198f6a1e27ccb2a3f2fc85b4ec54ce1ff24e", func := "vernier/vernierlaw05.ShapePatterns", spec := "shapePatterns", apart := false, narrowed := true }
def ShapePatternsUptoSaid : Prop := shapePatternsUptoRow.holds Try.pinned (OpenSpec.upto shapePatternsSpec)

/-- 'vernierlaw05.ShapeBack', WHERE WHAT IT READS IS OF BULK AT MOST 1048576: true; the input reads as it did. -/
def shapeBackUptoRow : OpenClaim := { program := "ythchcocolclpoab", sum := "77341edbd542e2ab2f89e053772d198f6a1e27ccb2a3f2fc85b4ec54ce1ff24e", func := "vernier/vernierlaw05.ShapeBack", spec := "shapeBack", apart := false, narrowed := true }
def ShapeBackUptoSaid : Prop := shapeBackUptoRow.holds Try.pinned (OpenSpec.upto shapeBackSpec)

end Rows
end Go.Proofs.Ythchcocolclpoab
