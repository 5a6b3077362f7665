import Derived.Test.YtajlgpamcpgalaaCkB
namespace Go.Proofs.Ytajlgpamcpgalaa
open Go.ChangeShapes Go.WideShapes Go.ChangeAt Go.RowKit
set_option linter.unusedVariables false
set_option linter.unusedSimpArgs false
set_option maxRecDepth 100000

/-! ### assemble -/
theorem putOf_lt (x at_ m v : Nat) (hx : x < 2 ^ 64) : putOf x at_ m v < 2 ^ 64 := by
  unfold putOf
  exact Nat.or_lt_two_pow (Nat.lt_of_le_of_lt Nat.and_le_left hx) (Nat.lt_of_le_of_lt Nat.and_le_left (Nat.mod_lt _ (by decide)))
def asmV (n run : Nat) (ex : Int) : Nat := u64Of (ex / 2 ^ (2 - min (n - 2 - run) 2))
def asmP (n : Nat) (neg ones : Bool) (run : Nat) (ex : Int) (fr : Nat) : Nat :=
  if neg then minusU (numOf (asmL n ones run (asmV n run ex) fr)) % 2 ^ n else numOf (asmL n ones run (asmV n run ex) fr)
theorem isField_nat {a m : Nat} (h : a + m ≤ 64) : isField a m = true := by simp [isField]; omega
end Go.Proofs.Ytajlgpamcpgalaa
