import Derived.Test.YthbhcdokjlpjbabCodD
namespace Go.Proofs.Ythbhcdokjlpjbab
open Go.ChangeShapes Go.WideShapes Go.ChangeAt Go.RowKit
set_option linter.unusedVariables false
set_option linter.unusedSimpArgs false
set_option maxRecDepth 100000

theorem chars_rep (k : Nat) (b : Bool) : chars (List.replicate (k + 1) b) = chars (List.replicate k b) ++ [.int .u8 (bitByte b).toNat] := by
  rw [List.replicate_succ']; simp [chars]
end Go.Proofs.Ythbhcdokjlpjbab
