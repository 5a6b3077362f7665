import Derived.Test.YtajlgpamcpgalaaKit
import Derived.Test.YtajlgpamcpgalaaRows
import Derived.Lib.IfaceEq
namespace Go.Proofs.Ytajlgpamcpgalaa
open Go.ChangeShapes Go.WideShapes Go.ChangeAt Go.RowKit

/-! ### which of api's Codes an error is -/
def codeOf (c : Int) : Int := if 1 ≤ c ∧ c ≤ 24 then c else -1
theorem further_any (c : Int) (w : World) : Calls Try.prog 30 #[.iface 51 (.int .i64 c)] w fun e w' => e = .returned (.int .i64 (if 13 ≤ c ∧ c ≤ 24 then c else -1)) ∧ w' = w := by
  have he := fun w a b => Lib.run_eql_iface_int (P := Try.prog) w (t := 27) (tx := 51) (k := .i64) a b Try.underlying27 (by kernel_rfl) Try.underlying51
  refine cps fun Q hQ => ?_
  go_enter Try.func30, Try.ntmps30
  go_wp2
  all_goals exact hQ.out _ _ ⟨ret_i (by simp only [beq_iff_eq, beq_eq_false_iff_ne] at *; split <;> omega), rfl⟩
theorem code_nil (w : World) : Calls Try.prog 12 #[.nilIface] w fun e w' => e = .returned (.int .i64 0) ∧ w' = w := by
  refine cps fun Q hQ => ?_
  go_enter Try.func12, Try.ntmps12
  go_wp2
  exact hQ.out _ _ ⟨rfl, rfl⟩
theorem code_any (c : Int) (w : World) : Calls Try.prog 12 #[.iface 51 (.int .i64 c)] w fun e w' => e = .returned (.int .i64 (codeOf c)) ∧ w' = w := by
  have he := fun w a b => Lib.run_eql_iface_int (P := Try.prog) w (t := 27) (tx := 51) (k := .i64) a b Try.underlying27 (by kernel_rfl) Try.underlying51
  refine cps fun Q hQ => ?_
  go_enter Try.func12, Try.ntmps12
  go_wp2_with (go_at_call 30; refine (further_any c _).mono ?_; rintro e w' ⟨rfl, rfl⟩)
  all_goals exact hQ.out _ _ ⟨ret_i (by simp only [beq_iff_eq, beq_eq_false_iff_ne] at *; unfold codeOf; repeat' split <;> omega), rfl⟩
end Go.Proofs.Ytajlgpamcpgalaa
