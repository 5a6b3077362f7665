import Derived.Test.YtpjegpgnelfeeacJoin2
namespace Go.Proofs.Ytpjegpgnelfeeac
open Go.ChangeShapes Go.WideShapes Go.ChangeAt Go.RowKit
set_option linter.unusedVariables false

theorem sq_some (a : Nat) : ∃ r, r * r ≤ a ∧ a < (r + 1) * (r + 1) := by
  induction a with
  | zero => exact ⟨0, by decide, by decide⟩
  | succ a ih =>
    obtain ⟨r, h1, h2⟩ := ih
    by_cases h : (r + 1) * (r + 1) ≤ a + 1
    · refine ⟨r + 1, h, ?_⟩
      have : (r + 1 + 1) * (r + 1 + 1) = (r + 1) * (r + 1) + (r + 1) + (r + 1) + 1 := by
        rw [Nat.mul_add (r + 1 + 1), Nat.add_mul (r + 1) 1 (r + 1)]
        omega
      omega
    · exact ⟨r, by omega, by omega⟩
end Go.Proofs.Ytpjegpgnelfeeac
