import Derived.Test.YtajlgpamcpgalaaCodJ
namespace Go.Proofs.Ytajlgpamcpgalaa
open Go.ChangeShapes Go.WideShapes Go.ChangeAt Go.RowKit
set_option linter.unusedVariables false
set_option linter.unusedSimpArgs false
set_option maxRecDepth 100000

/-! ### Join -/
/-- the seven parts beside the sign -/
def isParts (t : List Bool) (ones : Bool) (run reg eb ex fb : Int) (fr : Nat) : Prop :=
  ones = onesL t ∧ run = runL t ∧ reg = regL t ∧ eb = (min (restL t).length 2 : Nat) ∧ ex = expL t ∧ fb = ((restL t).length - 2 : Nat) ∧ fr = fracL t
end Go.Proofs.Ytajlgpamcpgalaa
