/-
  No cell of these rows narrows 'for every input' (looked for: loops, veiled, ifaces, maps, wideKeys, modest, calm, conditions, laid).
  DERIVED. THE GIVEN ROWS OF THIS SEAT. 6 by the template 'for every input the law returns true; each argument reads behind the call as it read before'; 0 by the template 'total and deterministic' (their statements: YtpjegpgnelfeeaaTotals.lean).
  GIVEN WITH THE SEED: the statements are not yours to turn. If you find one false, say at which input.
  Laid BY PROGRAM, IN A SANDBOX (cutbox-rows.mjs): the forced cells as the released guide's own fill.sh prints them over the translation 636b5dd72fe45fb7… (all of the seat's roots in one cut). By AI agents, Wed Nov 11 2026. No macro, syntax, notation, axiom, sorry.
-/
import Derived.Test.YtpjegpgnelfeeaaChecked
import GoSem.Claim
import GoSem.ClaimJoined
import GoSem.ClaimMapViews
import Derived.JoinedTies
import Derived.KernelRfl
namespace Go.Proofs.Ytpjegpgnelfeeaa
/- THE CELL 'sum', in the pinned program and in every row, IS THE sha256 OF THE DUMP (.gsa) THAT YtpjegpgnelfeeaaProg.lean LOADS. Nothing in Lean hashes anything: it is a label: what it is worth is what the hold of that sum in a sandbox is worth. -/
noncomputable def Try.pinned : Pinned := { name := "ytpjegpgnelfeeaa", sum := "636b5dd72fe45fb7668f01c92c864bb704db1e60a56662dcbda9c51a8ed9666b", checked := Try.checked }
namespace Rows
def none {H : Type} : Left H := { results := [], args := [] }

/-- 'vernierlaw02.TwinAdds': WHATEVER THE INPUT: true; the input reads as it did. -/
def twinAddsSpec : ChangeSpec := { name := "twinAdds", fn := fun _ => fun
  | [d1, d2] => { results := [.lit (.bool true)], args := [d1, d2] }
  | _ => none }
def twinAddsRow : OpenClaim := { program := "ytpjegpgnelfeeaa", sum := "636b5dd72fe45fb7668f01c92c864bb704db1e60a56662dcbda9c51a8ed9666b", func := "vernier/vernierlaw02.TwinAdds", spec := "twinAdds", inPlace := ["math/bits.Add64", "math/bits.Sub64"], apart := false }
def TwinAddsSaid : Prop := twinAddsRow.holds Try.pinned (OpenSpec.ofChange twinAddsSpec)

/-- ITS FALSE NEIGHBOUR: 'it returns false'. Refute it at one input. -/
def twinAddsWrong : ChangeSpec := { name := "twinAdds", fn := fun _ => fun
  | [d1, d2] => { results := [.lit (.bool false)], args := [d1, d2] }
  | _ => none }
def TwinAddsWrongFalsely : Prop := twinAddsRow.holds Try.pinned (OpenSpec.ofChange twinAddsWrong)

/-- 'vernierlaw02.TwinCmps': WHATEVER THE INPUT: true; the input reads as it did. -/
def twinCmpsSpec : ChangeSpec := { name := "twinCmps", fn := fun _ => fun
  | [d1, d2] => { results := [.lit (.bool true)], args := [d1, d2] }
  | _ => none }
def twinCmpsRow : OpenClaim := { program := "ytpjegpgnelfeeaa", sum := "636b5dd72fe45fb7668f01c92c864bb704db1e60a56662dcbda9c51a8ed9666b", func := "vernier/vernierlaw02.TwinCmps", spec := "twinCmps", inPlace := ["math/bits.Add64"], apart := false }
def TwinCmpsSaid : Prop := twinCmpsRow.holds Try.pinned (OpenSpec.ofChange twinCmpsSpec)

/-- ITS FALSE NEIGHBOUR: 'it returns false'. Refute it at one input. -/
def twinCmpsWrong : ChangeSpec := { name := "twinCmps", fn := fun _ => fun
  | [d1, d2] => { results := [.lit (.bool false)], args := [d1, d2] }
  | _ => none }
def TwinCmpsWrongFalsely : Prop := twinCmpsRow.holds Try.pinned (OpenSpec.ofChange twinCmpsWrong)

/-- 'vernierlaw02.TwinMuls': WHATEVER THE INPUT: true; the input reads as it did. -/
def twinMulsSpec : ChangeSpec := { name := "twinMuls", fn := fun _ => fun
  | [d1, d2] => { results := [.lit (.bool true)], args := [d1, d2] }
  | _ => none }
def twinMulsRow : OpenClaim := { program := "ytpjegpgnelfeeaa", sum := "636b5dd72fe45fb7668f01c92c864bb704db1e60a56662dcbda9c51a8ed9666b", func := "vernier/vernierlaw02.TwinMuls", spec := "twinMuls", inPlace := ["math/bits.Add64"], apart := false }
def TwinMulsSaid : Prop := twinMulsRow.holds Try.pinned (OpenSpec.ofChange twinMulsSpec)

/-- ITS FALSE NEIGHBOUR: 'it returns false'. Refute it at one input. -/
def twinMulsWrong : ChangeSpec := { name := "twinMuls", fn := fun _ => fun
  | [d1, d2] => { results := [.lit (.bool false)], args := [d1, d2] }
  | _ => none }
def TwinMulsWrongFalsely : Prop := twinMulsRow.holds Try.pinned (OpenSpec.ofChange twinMulsWrong)

/-- 'vernierlaw02.TwinShls': WHATEVER THE INPUT: true; the input reads as it did. -/
def twinShlsSpec : ChangeSpec := { name := "twinShls", fn := fun _ => fun
  | [d1, d2] => { results := [.lit (.bool true)], args := [d1, d2] }
  | _ => none }
def twinShlsRow : OpenClaim := { program := "ytpjegpgnelfeeaa", sum := "636b5dd72fe45fb7668f01c92c864bb704db1e60a56662dcbda9c51a8ed9666b", func := "vernier/vernierlaw02.TwinShls", spec := "twinShls", inPlace := ["math/bits.Add64"], apart := false }
def TwinShlsSaid : Prop := twinShlsRow.holds Try.pinned (OpenSpec.ofChange twinShlsSpec)

/-- ITS FALSE NEIGHBOUR: 'it returns false'. Refute it at one input. -/
def twinShlsWrong : ChangeSpec := { name := "twinShls", fn := fun _ => fun
  | [d1, d2] => { results := [.lit (.bool false)], args := [d1, d2] }
  | _ => none }
def TwinShlsWrongFalsely : Prop := twinShlsRow.holds Try.pinned (OpenSpec.ofChange twinShlsWrong)

/-- 'vernierlaw02.TwinShrs': WHATEVER THE INPUT: true; the input reads as it did. -/
def twinShrsSpec : ChangeSpec := { name := "twinShrs", fn := fun _ => fun
  | [d1, d2] => { results := [.lit (.bool true)], args := [d1, d2] }
  | _ => none }
def twinShrsRow : OpenClaim := { program := "ytpjegpgnelfeeaa", sum := "636b5dd72fe45fb7668f01c92c864bb704db1e60a56662dcbda9c51a8ed9666b", func := "vernier/vernierlaw02.TwinShrs", spec := "twinShrs", inPlace := ["math/bits.Add64"], apart := false }
def TwinShrsSaid : Prop := twinShrsRow.holds Try.pinned (OpenSpec.ofChange twinShrsSpec)

/-- ITS FALSE NEIGHBOUR: 'it returns false'. Refute it at one input. -/
def twinShrsWrong : ChangeSpec := { name := "twinShrs", fn := fun _ => fun
  | [d1, d2] => { results := [.lit (.bool false)], args := [d1, d2] }
  | _ => none }
def TwinShrsWrongFalsely : Prop := twinShrsRow.holds Try.pinned (OpenSpec.ofChange twinShrsWrong)

/-- 'vernierlaw02.TwinLens': WHATEVER THE INPUT: true; the input reads as it did. -/
def twinLensSpec : ChangeSpec := { name := "twinLens", fn := fun _ => fun
  | [d] => { results := [.lit (.bool true)], args := [d] }
  | _ => none }
def twinLensRow : OpenClaim := { program := "ytpjegpgnelfeeaa", sum := "636b5dd72fe45fb7668f01c92c864bb704db1e60a56662dcbda9c51a8ed9666b", func := "vernier/vernierlaw02.TwinLens", spec := "twinLens", inPlace := ["math/bits.Add64"], apart := false }
def TwinLensSaid : Prop := twinLensRow.holds Try.pinned (OpenSpec.ofChange twinLensSpec)

/-- ITS FALSE NEIGHBOUR: 'it returns false'. Refute it at one input. -/
def twinLensWrong : ChangeSpec := { name := "twinLens", fn := fun _ => fun
  | [d] => { results := [.lit (.bool false)], args := [d] }
  | _ => none }
def TwinLensWrongFalsely : Prop := twinLensRow.holds Try.pinned (OpenSpec.ofChange twinLensWrong)

/- THE SECOND FORM. 'bulk': how many values and letters a reading holds, each counted each time it is reached (what is shared counts as often as it is met; a slice's spare places count too). A statement '..UptoSaid' is the law's where the arguments, and the package variables that the reading takes, are together of bulk at most 1048576: NARROWER than '..Said'. Prove '..Said' where nothing that the law and all that it calls make is longer than what came in: it says more and counts as full. Else prove '..UptoSaid'. A law counts once. -/
mutual
def uptoBulk {H : Type} : DataW H → Nat
  | .lit (.string bytes) => bytes.length + 1
  | .lit _ => 1
  | .nil => 1
  | .ptr d => uptoBulk d + 1
  | .slice elems spare => uptoBulkAll elems + uptoBulkAll spare + 1
  | .agg parts => uptoBulkAll parts + 1
  | .iface _ d => uptoBulk d + 1
  | .map entries => uptoBulkEntries entries + 1
  | .held _ => 1
def uptoBulkAll {H : Type} : List (DataW H) → Nat
  | [] => 0
  | d :: r => uptoBulk d + uptoBulkAll r
def uptoBulkEntries {H : Type} : List (Lit × DataW H) → Nat
  | [] => 0
  | x :: r => uptoBulkEntry x + uptoBulkEntries r
def uptoBulkEntry {H : Type} : Lit × DataW H → Nat
  | (.string bytes, d) => bytes.length + uptoBulk d + 1
  | (_, d) => uptoBulk d + 1
 end
def uptoSmall : (H : Type) → List (DataW H) → Bool := fun _ ds => decide (uptoBulkAll ds ≤ 1048576)
def OpenSpec.upto (s : _root_.Go.ChangeSpec) : _root_.Go.OpenSpec := { _root_.Go.OpenSpec.ofChange s with cond := some uptoSmall }

/-- 'vernierlaw02.TwinAdds', WHERE WHAT IT READS IS OF BULK AT MOST 1048576: true; the input reads as it did. -/
def twinAddsUptoRow : OpenClaim := { program := "ytpjegpgnelfeeaa", sum := "636b5dd72fe45fb7668f01c92c864bb704db1e60a56662dcbda9c51a8ed9666b", func := "vernier/vernierlaw02.TwinAdds", spec := "twinAdds", inPlace := ["math/bits.Add64", "math/bits.Sub64"], apart := false, narrowed := true }
def TwinAddsUptoSaid : Prop := twinAddsUptoRow.holds Try.pinned (OpenSpec.upto twinAddsSpec)

/-- 'vernierlaw02.TwinCmps', WHERE WHAT IT READS IS OF BULK AT MOST 1048576: true; the input reads as it did. -/
def twinCmpsUptoRow : OpenClaim := { program := "ytpjegpgnelfeeaa", sum := "636b5dd72fe45fb7668f01c92c864bb704db1e60a56662dcbda9c51a8ed9666b", func := "vernier/vernierlaw02.TwinCmps", spec := "twinCmps", inPlace := ["math/bits.Add64"], apart := false, narrowed := true }
def TwinCmpsUptoSaid : Prop := twinCmpsUptoRow.holds Try.pinned (OpenSpec.upto twinCmpsSpec)

/-- 'vernierlaw02.TwinMuls', WHERE WHAT IT READS IS OF BULK AT MOST 1048576: true; the input reads as it did. -/
def twinMulsUptoRow : OpenClaim := { program := "ytpjegpgnelfeeaa", sum := "636b5dd72fe45fb7668f01c92c864bb704db1e60a56662dcbda9c51a8ed9666b", func := "vernier/vernierlaw02.TwinMuls", spec := "twinMuls", inPlace := ["math/bits.Add64"], apart := false, narrowed := true }
def TwinMulsUptoSaid : Prop := twinMulsUptoRow.holds Try.pinned (OpenSpec.upto twinMulsSpec)

/-- 'vernierlaw02.TwinShls', WHERE WHAT IT READS IS OF BULK AT MOST 1048576: true; the input reads as it did. -/
def twinShlsUptoRow : OpenClaim := { program := "ytpjegpgnelfeeaa", sum := "636b5dd72fe45fb7668f01c92c864bb704db1e60a56662dcbda9c51a8ed9666b", func := "vernier/vernierlaw02.TwinShls", spec := "twinShls", inPlace := ["math/bits.Add64"], apart := false, narrowed := true }
def TwinShlsUptoSaid : Prop := twinShlsUptoRow.holds Try.pinned (OpenSpec.upto twinShlsSpec)

/-- 'vernierlaw02.TwinShrs', WHERE WHAT IT READS IS OF BULK AT MOST 1048576: true; the input reads as it did. -/
def twinShrsUptoRow : OpenClaim := { program := "ytpjegpgnelfeeaa", sum := "636b5dd72fe45fb7668f01c92c864bb704db1e60a56662dcbda9c51a8ed9666b", func := "vernier/vernierlaw02.TwinShrs", spec := "twinShrs", inPlace := ["math/bits.Add64"], apart := false, narrowed := true }
def TwinShrsUptoSaid : Prop := twinShrsUptoRow.holds Try.pinned (OpenSpec.upto twinShrsSpec)

/-- 'vernierlaw02.TwinLens', WHERE WHAT IT READS IS OF BULK AT MOST 1048576: true; the input reads as it did. -/
def twinLensUptoRow : OpenClaim := { program := "ytpjegpgnelfeeaa", sum := "636b5dd72fe45fb7668f01c92c864bb704db1e60a56662dcbda9c51a8ed9666b", func := "vernier/vernierlaw02.TwinLens", spec := "twinLens", inPlace := ["math/bits.Add64"], apart := false, narrowed := true }
def TwinLensUptoSaid : Prop := twinLensUptoRow.holds Try.pinned (OpenSpec.upto twinLensSpec)

end Rows
end Go.Proofs.Ytpjegpgnelfeeaa
