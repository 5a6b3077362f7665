/-
  No cell of these rows narrows 'for every input' (looked for: loops, veiled, ifaces, maps, wideKeys, modest, calm, conditions, laid).
  DERIVED. THE GIVEN ROWS OF THIS SEAT. 6 by the template 'for every input the law returns true; each argument reads behind the call as it read before'; 0 by the template 'total and deterministic' (their statements: YtpjegpgnelfeeabTotals.lean).
  GIVEN WITH THE SEED: the statements are not yours to turn. If you find one false, say at which input.
  Laid BY PROGRAM, IN A SANDBOX (cutbox-rows.mjs): the forced cells as the released guide's own fill.sh prints them over the translation c114264021ce46ff… (all of the seat's roots in one cut). By AI agents, Wed Nov 11 2026. No macro, syntax, notation, axiom, sorry.
-/
import Derived.Test.YtpjegpgnelfeeabChecked
import GoSem.Claim
import GoSem.ClaimJoined
import GoSem.ClaimMapViews
import Derived.JoinedTies
import Derived.KernelRfl
namespace Go.Proofs.Ytpjegpgnelfeeab
/- THE CELL 'sum', in the pinned program and in every row, IS THE sha256 OF THE DUMP (.gsa) THAT YtpjegpgnelfeeabProg.lean LOADS. Nothing in Lean hashes anything: it is a label: what it is worth is what the hold of that sum in a sandbox is worth. -/
noncomputable def Try.pinned : Pinned := { name := "ytpjegpgnelfeeab", sum := "c114264021ce46ff243179550146b6b9bc507163f227b242eeb3574305a7996d", checked := Try.checked }
namespace Rows
def none {H : Type} : Left H := { results := [], args := [] }

/-- 'vernierlaw02.TwinRing': WHATEVER THE INPUT: true; the input reads as it did. -/
def twinRingSpec : ChangeSpec := { name := "twinRing", fn := fun _ => fun
  | [d1, d2, d3, d4, d5] => { results := [.lit (.bool true)], args := [d1, d2, d3, d4, d5] }
  | _ => none }
def twinRingRow : OpenClaim := { program := "ytpjegpgnelfeeab", sum := "c114264021ce46ff243179550146b6b9bc507163f227b242eeb3574305a7996d", func := "vernier/vernierlaw02.TwinRing", spec := "twinRing", inPlace := ["math/bits.Add64", "math/bits.Sub64"], apart := false }
def TwinRingSaid : Prop := twinRingRow.holds Try.pinned (OpenSpec.ofChange twinRingSpec)

/-- ITS FALSE NEIGHBOUR: 'it returns false'. Refute it at one input. -/
def twinRingWrong : ChangeSpec := { name := "twinRing", fn := fun _ => fun
  | [d1, d2, d3, d4, d5] => { results := [.lit (.bool false)], args := [d1, d2, d3, d4, d5] }
  | _ => none }
def TwinRingWrongFalsely : Prop := twinRingRow.holds Try.pinned (OpenSpec.ofChange twinRingWrong)

/-- 'vernierlaw02.TwinBack': WHATEVER THE INPUT: true; the input reads as it did. -/
def twinBackSpec : ChangeSpec := { name := "twinBack", fn := fun _ => fun
  | [d1, d2] => { results := [.lit (.bool true)], args := [d1, d2] }
  | _ => none }
def twinBackRow : OpenClaim := { program := "ytpjegpgnelfeeab", sum := "c114264021ce46ff243179550146b6b9bc507163f227b242eeb3574305a7996d", func := "vernier/vernierlaw02.TwinBack", spec := "twinBack", inPlace := ["math/bits.Add64", "math/bits.Sub64"], apart := false }
def TwinBackSaid : Prop := twinBackRow.holds Try.pinned (OpenSpec.ofChange twinBackSpec)

/-- ITS FALSE NEIGHBOUR: 'it returns false'. Refute it at one input. -/
def twinBackWrong : ChangeSpec := { name := "twinBack", fn := fun _ => fun
  | [d1, d2] => { results := [.lit (.bool false)], args := [d1, d2] }
  | _ => none }
def TwinBackWrongFalsely : Prop := twinBackRow.holds Try.pinned (OpenSpec.ofChange twinBackWrong)

/-- 'vernierlaw03.PartDivs': WHATEVER THE INPUT: true; the input reads as it did. -/
def partDivsSpec : ChangeSpec := { name := "partDivs", fn := fun _ => fun
  | [d1, d2] => { results := [.lit (.bool true)], args := [d1, d2] }
  | _ => none }
def partDivsRow : OpenClaim := { program := "ytpjegpgnelfeeab", sum := "c114264021ce46ff243179550146b6b9bc507163f227b242eeb3574305a7996d", func := "vernier/vernierlaw03.PartDivs", spec := "partDivs", inPlace := ["math/bits.Sub64"], named := ["math/bits.divideError", "math/bits.overflowError"], apart := false }
def PartDivsSaid : Prop := partDivsRow.holds Try.pinned (OpenSpec.ofChange partDivsSpec)

/-- ITS FALSE NEIGHBOUR: 'it returns false'. Refute it at one input. -/
def partDivsWrong : ChangeSpec := { name := "partDivs", fn := fun _ => fun
  | [d1, d2] => { results := [.lit (.bool false)], args := [d1, d2] }
  | _ => none }
def PartDivsWrongFalsely : Prop := partDivsRow.holds Try.pinned (OpenSpec.ofChange partDivsWrong)

/-- 'vernierlaw03.PartLongs': WHATEVER THE INPUT: true; the input reads as it did. -/
def partLongsSpec : ChangeSpec := { name := "partLongs", fn := fun _ => fun
  | [d1, d2] => { results := [.lit (.bool true)], args := [d1, d2] }
  | _ => none }
def partLongsRow : OpenClaim := { program := "ytpjegpgnelfeeab", sum := "c114264021ce46ff243179550146b6b9bc507163f227b242eeb3574305a7996d", func := "vernier/vernierlaw03.PartLongs", spec := "partLongs", inPlace := ["math/bits.Sub64"], named := ["math/bits.divideError", "math/bits.overflowError"], apart := false }
def PartLongsSaid : Prop := partLongsRow.holds Try.pinned (OpenSpec.ofChange partLongsSpec)

/-- ITS FALSE NEIGHBOUR: 'it returns false'. Refute it at one input. -/
def partLongsWrong : ChangeSpec := { name := "partLongs", fn := fun _ => fun
  | [d1, d2] => { results := [.lit (.bool false)], args := [d1, d2] }
  | _ => none }
def PartLongsWrongFalsely : Prop := partLongsRow.holds Try.pinned (OpenSpec.ofChange partLongsWrong)

/-- 'vernierlaw03.PartWides': WHATEVER THE INPUT: true; the input reads as it did. -/
def partWidesSpec : ChangeSpec := { name := "partWides", fn := fun _ => fun
  | [d1, d2] => { results := [.lit (.bool true)], args := [d1, d2] }
  | _ => none }
def partWidesRow : OpenClaim := { program := "ytpjegpgnelfeeab", sum := "c114264021ce46ff243179550146b6b9bc507163f227b242eeb3574305a7996d", func := "vernier/vernierlaw03.PartWides", spec := "partWides", inPlace := ["math/bits.Sub64"], named := ["math/bits.divideError", "math/bits.overflowError"], apart := false }
def PartWidesSaid : Prop := partWidesRow.holds Try.pinned (OpenSpec.ofChange partWidesSpec)

/-- ITS FALSE NEIGHBOUR: 'it returns false'. Refute it at one input. -/
def partWidesWrong : ChangeSpec := { name := "partWides", fn := fun _ => fun
  | [d1, d2] => { results := [.lit (.bool false)], args := [d1, d2] }
  | _ => none }
def PartWidesWrongFalsely : Prop := partWidesRow.holds Try.pinned (OpenSpec.ofChange partWidesWrong)

/-- 'vernierlaw03.PartRoots': WHATEVER THE INPUT: true; the input reads as it did. -/
def partRootsSpec : ChangeSpec := { name := "partRoots", fn := fun _ => fun
  | [d] => { results := [.lit (.bool true)], args := [d] }
  | _ => none }
def partRootsRow : OpenClaim := { program := "ytpjegpgnelfeeab", sum := "c114264021ce46ff243179550146b6b9bc507163f227b242eeb3574305a7996d", func := "vernier/vernierlaw03.PartRoots", spec := "partRoots", inPlace := ["math/bits.Sub64"], named := ["math/bits.divideError", "math/bits.overflowError"], apart := false }
def PartRootsSaid : Prop := partRootsRow.holds Try.pinned (OpenSpec.ofChange partRootsSpec)

/-- ITS FALSE NEIGHBOUR: 'it returns false'. Refute it at one input. -/
def partRootsWrong : ChangeSpec := { name := "partRoots", fn := fun _ => fun
  | [d] => { results := [.lit (.bool false)], args := [d] }
  | _ => none }
def PartRootsWrongFalsely : Prop := partRootsRow.holds Try.pinned (OpenSpec.ofChange partRootsWrong)

/- THE SECOND FORM. 'bulk': how many values and letters a reading holds, each counted each time it is reached (what is shared counts as often as it is met; a slice's spare places count too). A statement '..UptoSaid' is the law's where the arguments, and the package variables that the reading takes, are together of bulk at most 1048576: NARROWER than '..Said'. Prove '..Said' where nothing that the law and all that it calls make is longer than what came in: it says more and counts as full. Else prove '..UptoSaid'. A law counts once. -/
mutual
def uptoBulk {H : Type} : DataW H → Nat
  | .lit (.string bytes) => bytes.length + 1
  | .lit _ => 1
  | .nil => 1
  | .ptr d => uptoBulk d + 1
  | .slice elems spare => uptoBulkAll elems + uptoBulkAll spare + 1
  | .agg parts => uptoBulkAll parts + 1
  | .iface _ d => uptoBulk d + 1
  | .map entries => uptoBulkEntries entries + 1
  | .held _ => 1
def uptoBulkAll {H : Type} : List (DataW H) → Nat
  | [] => 0
  | d :: r => uptoBulk d + uptoBulkAll r
def uptoBulkEntries {H : Type} : List (Lit × DataW H) → Nat
  | [] => 0
  | x :: r => uptoBulkEntry x + uptoBulkEntries r
def uptoBulkEntry {H : Type} : Lit × DataW H → Nat
  | (.string bytes, d) => bytes.length + uptoBulk d + 1
  | (_, d) => uptoBulk d + 1
 end
def uptoSmall : (H : Type) → List (DataW H) → Bool := fun _ ds => decide (uptoBulkAll ds ≤ 1048576)
def OpenSpec.upto (s : _root_.Go.ChangeSpec) : _root_.Go.OpenSpec := { _root_.Go.OpenSpec.ofChange s with cond := some uptoSmall }

/-- 'vernierlaw02.TwinRing', WHERE WHAT IT READS IS OF BULK AT MOST 1048576: true; the input reads as it did. -/
def twinRingUptoRow : OpenClaim := { program := "ytpjegpgnelfeeab", sum := "c114264021ce46ff243179550146b6b9bc507163f227b242eeb3574305a7996d", func := "vernier/vernierlaw02.TwinRing", spec := "twinRing", inPlace := ["math/bits.Add64", "math/bits.Sub64"], apart := false, narrowed := true }
def TwinRingUptoSaid : Prop := twinRingUptoRow.holds Try.pinned (OpenSpec.upto twinRingSpec)

/-- 'vernierlaw02.TwinBack', WHERE WHAT IT READS IS OF BULK AT MOST 1048576: true; the input reads as it did. -/
def twinBackUptoRow : OpenClaim := { program := "ytpjegpgnelfeeab", sum := "c114264021ce46ff243179550146b6b9bc507163f227b242eeb3574305a7996d", func := "vernier/vernierlaw02.TwinBack", spec := "twinBack", inPlace := ["math/bits.Add64", "math/bits.Sub64"], apart := false, narrowed := true }
def TwinBackUptoSaid : Prop := twinBackUptoRow.holds Try.pinned (OpenSpec.upto twinBackSpec)

/-- 'vernierlaw03.PartDivs', WHERE WHAT IT READS IS OF BULK AT MOST 1048576: true; the input reads as it did. -/
def partDivsUptoRow : OpenClaim := { program := "ytpjegpgnelfeeab", sum := "c114264021ce46ff243179550146b6b9bc507163f227b242eeb3574305a7996d", func := "vernier/vernierlaw03.PartDivs", spec := "partDivs", inPlace := ["math/bits.Sub64"], named := ["math/bits.divideError", "math/bits.overflowError"], apart := false, narrowed := true }
def PartDivsUptoSaid : Prop := partDivsUptoRow.holds Try.pinned (OpenSpec.upto partDivsSpec)

/-- 'vernierlaw03.PartLongs', WHERE WHAT IT READS IS OF BULK AT MOST 1048576: true; the input reads as it did. -/
def partLongsUptoRow : OpenClaim := { program := "ytpjegpgnelfeeab", sum := "c114264021ce46ff243179550146b6b9bc507163f227b242eeb3574305a7996d", func := "vernier/vernierlaw03.PartLongs", spec := "partLongs", inPlace := ["math/bits.Sub64"], named := ["math/bits.divideError", "math/bits.overflowError"], apart := false, narrowed := true }
def PartLongsUptoSaid : Prop := partLongsUptoRow.holds Try.pinned (OpenSpec.upto partLongsSpec)

/-- 'vernierlaw03.PartWides', WHERE WHAT IT READS IS OF BULK AT MOST 1048576: true; the input reads as it did. -/
def partWidesUptoRow : OpenClaim := { program := "ytpjegpgnelfeeab", sum := "c114264021ce46ff243179550146b6b9bc507163f227b242eeb3574305a7996d", func := "vernier/vernierlaw03.PartWides", spec := "partWides", inPlace := ["math/bits.Sub64"], named := ["math/bits.divideError", "math/bits.overflowError"], apart := false, narrowed := true }
def PartWidesUptoSaid : Prop := partWidesUptoRow.holds Try.pinned (OpenSpec.upto partWidesSpec)

/-- 'vernierlaw03.PartRoots', WHERE WHAT IT READS IS OF BULK AT MOST 1048576: true; the input reads as it did. -/
def partRootsUptoRow : OpenClaim := { program := "ytpjegpgnelfeeab", sum := "c114264021ce46ff243179550146b6b9bc507163f227b242eeb3574305a7996d", func := "vernier/vernierlaw03.PartRoots", spec := "partRoots", inPlace := ["math/bits.Sub64"], named := ["math/bits.divideError", "math/bits.overflowError"], apart := false, narrowed := true }
def PartRootsUptoSaid : Prop := partRootsUptoRow.holds Try.pinned (OpenSpec.upto partRootsSpec)

end Rows
end Go.Proofs.Ytpjegpgnelfeeab
