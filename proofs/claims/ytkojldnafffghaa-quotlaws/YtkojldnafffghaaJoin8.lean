import Derived.Test.YtkojldnafffghaaJoin7
import Derived.Test.YtkojldnafffghaaJoin1
import Derived.Test.YtkojldnafffghaaJoin6
import Derived.Test.YtkojldnafffghaaJoin5


namespace Go.Proofs.Ytkojldnafffghaa
open Go.ChangeShapes Go.WideShapes Go.ChangeAt Go.RowKit
set_option linter.unusedVariables false
set_option linter.unusedSimpArgs false
set_option maxRecDepth 100000

theorem nil_not_code (w : World) (c : Int) : (binOp BinOp.eql 29 .nilIface (.iface 43 (.int .i64 c))).run Try.prog w = .ok (.bool false) w := by kernel_rfl
end Go.Proofs.Ytkojldnafffghaa

namespace Go.Proofs.Ytkojldnafffghaa
open Go.ChangeShapes Go.WideShapes Go.ChangeAt Go.RowKit
set_option linter.unusedVariables false
set_option linter.unusedSimpArgs false
set_option maxRecDepth 100000

/-- the head of all laws of this layer -/
theorem quotup_any (w : World) : Calls Try.prog 8 #[] w fun e w' => e = .returned (.bool true) ∧ Below w.heap.size w w' := by
  have k1 := fun w => qdiv_ok 8 64 72 (.inl rfl) (by decide) (by decide) w
  have k2 := fun w => qdiv_ok 8 64 0 (.inl rfl) (by decide) (by decide) w
  rw [show patQ 8 64 72 = 56 by decide +kernel] at k1
  rw [show patQ 8 64 0 = 128 by decide +kernel] at k2
  rw [show ((72 : Nat) : Int) = 72 from rfl, show ((64 : Nat) : Int) = 64 from rfl, show ((8 : Nat) : Int) = 8 from rfl, show ((56 : Nat) : Int) = 56 from rfl] at k1
  rw [show ((0 : Nat) : Int) = 0 from rfl, show ((64 : Nat) : Int) = 64 from rfl, show ((8 : Nat) : Int) = 8 from rfl, show ((128 : Nat) : Int) = 128 from rfl] at k2
  refine cps fun Q hQ => ?_
  go_enter Try.func8, Try.ntmps8
  go_wp2_with (first
    | (go_at_call_of 12 (72 : Int); refine (k1 _).mono ?_; rintro e w1 ⟨rfl, hb1⟩)
    | (go_at_call 12; refine (k2 _).mono ?_; rintro e w2 ⟨rfl, hb2⟩))
  exact hQ.out _ _ ⟨rfl, cthen hb1 hb2⟩
end Go.Proofs.Ytkojldnafffghaa

namespace Go.Proofs.Ytkojldnafffghaa
set_option maxRecDepth 100000
/-! ### the contracts of package prod stand in PkA -/
end Go.Proofs.Ytkojldnafffghaa
