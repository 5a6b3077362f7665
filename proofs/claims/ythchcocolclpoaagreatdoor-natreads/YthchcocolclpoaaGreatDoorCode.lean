import Derived.Test.YthchcocolclpoaaGreatDoorKit
import Derived.Test.YthchcocolclpoaaGreatDoorRows
import Derived.Lib.IfaceEq
namespace Go.Proofs.YthchcocolclpoaaGreatDoor
open Go.ChangeShapes Go.WideShapes Go.ChangeAt Go.RowKit

/-! ### which of api's Codes an error is -/
def codeOf (c : Int) : Int := if 1 ≤ c ∧ c ≤ 24 then c else -1
theorem further_any (c : Int) (w : World) : Calls Tryz.prog 45 #[.iface 29 (.int .i64 c)] w fun e w' => e = .returned (.int .i64 (if 13 ≤ c ∧ c ≤ 24 then c else -1)) ∧ w' = w := by
  have he := fun w a b => Lib.run_eql_iface_int (P := Tryz.prog) w (t := 26) (tx := 29) (k := .i64) a b Tryz.underlying26 (by kernel_rfl) Tryz.underlying29
  refine cps fun Q hQ => ?_
  go_enter Tryz.func45, Tryz.ntmps45
  go_wp2
  all_goals exact hQ.out _ _ ⟨ret_i (by simp only [beq_iff_eq, beq_eq_false_iff_ne] at *; split <;> omega), rfl⟩
theorem code_nil (w : World) : Calls Tryz.prog 20 #[.nilIface] w fun e w' => e = .returned (.int .i64 0) ∧ w' = w := by
  refine cps fun Q hQ => ?_
  go_enter Tryz.func20, Tryz.ntmps20
  go_wp2
  exact hQ.out _ _ ⟨rfl, rfl⟩
theorem code_any (c : Int) (w : World) : Calls Tryz.prog 20 #[.iface 29 (.int .i64 c)] w fun e w' => e = .returned (.int .i64 (codeOf c)) ∧ w' = w := by
  have he := fun w a b => Lib.run_eql_iface_int (P := Tryz.prog) w (t := 26) (tx := 29) (k := .i64) a b Tryz.underlying26 (by kernel_rfl) Tryz.underlying29
  refine cps fun Q hQ => ?_
  go_enter Tryz.func20, Tryz.ntmps20
  go_wp2_with (go_at_call 45; refine (further_any c _).mono ?_; rintro e w' ⟨rfl, rfl⟩)
  all_goals exact hQ.out _ _ ⟨ret_i (by simp only [beq_iff_eq, beq_eq_false_iff_ne] at *; unfold codeOf; repeat' split <;> omega), rfl⟩
end Go.Proofs.YthchcocolclpoaaGreatDoor
