import Derived.Test.YtajlgpamcpgalaaRndJ
namespace Go.Proofs.Ytajlgpamcpgalaa
open Go.ChangeShapes Go.WideShapes Go.ChangeAt Go.RowKit
set_option linter.unusedVariables false
set_option linter.unusedSimpArgs false
set_option maxRecDepth 100000

/-! ### a scale within the bound -/
def heldX (s : Int) : Int := if s < -1099511627776 then -1099511627776 else if s > 1099511627776 then 1099511627776 else s
theorem held7_any (s : Int) (w : World) :
    Calls Try.prog 54 #[.int .i64 s] w fun e w' => e = .returned (.int .i64 (heldX s)) ∧ w' = w := by
  unfold heldX
  refine cps fun Q hQ => ?_
  by_cases h1 : s < -1099511627776
  · rw [if_pos h1] at hQ
    go_enter Try.func54, Try.ntmps54
    go_wp2
    exact hQ.out _ _ ⟨rfl, rfl⟩
  · rw [if_neg h1] at hQ
    have d1 : decide (s < -1099511627776) = false := decide_eq_false h1
    by_cases h2 : s > 1099511627776
    · rw [if_pos h2] at hQ
      have d2 : decide ((1099511627776 : Int) < s) = true := decide_eq_true h2
      go_enter Try.func54, Try.ntmps54
      go_wp2
      exact hQ.out _ _ ⟨rfl, rfl⟩
    · rw [if_neg h2] at hQ
      have d2 : decide ((1099511627776 : Int) < s) = false := decide_eq_false (by omega)
      go_enter Try.func54, Try.ntmps54
      go_wp2
      exact hQ.out _ _ ⟨rfl, rfl⟩
end Go.Proofs.Ytajlgpamcpgalaa
