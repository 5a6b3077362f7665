import Derived.Test.YthchcocolclpoaaGreatDoorIsB
import Derived.Test.YthchcocolclpoaaGreatDoorCode
import Derived.Lib.IfaceEq
namespace Go.Proofs.YthchcocolclpoaaGreatDoor
open Go.RowKit Go.Extern.Stop Go.Stop Go.Extern
set_option linter.unusedVariables false

/-! ### errors.Is(a *api.Fault, its own Err, a Code) -/
theorem isTypeOfC (v : Value) (w : World) : (Extern.ReflectliteType.typeOf #[.iface 29 v]).run Tryz.prog w = .ok (.iface 109 (.agg #[.pointer (some ⟨11, 29, none⟩)])) w := by kernel_rfl
theorem isComparableC (w : World) : ((Extern.ReflectliteType.method fun t => do Rtype.noPackHeld "Comparable" t; (fun a => Value.bool a.comparable) <$> typeInfo t) #[.agg #[.pointer (some ⟨11, 29, none⟩)]]).run Tryz.prog w = .ok (.bool true) w := by kernel_rfl
theorem mComparable (v : Value) (w : World) : (Go.method 292 109 v "Comparable").run Tryz.prog w = .ok (130, v) w := by kernel_rfl
theorem noIsF (v : Value) (xT : TypeId) (w : World) : (Instr.typeAssert (.iface 41 v) xT 121 true).run Tryz.prog w = .ok (.tuple #[.nilIface, .bool false]) w := run_typeAssert_lacksB Tryz.underlying121 (by kernel_rfl) (by kernel_rfl) v xT w
theorem hasUnwrapF (v : Value) (xT : TypeId) (w : World) : (Instr.typeAssert (.iface 41 v) xT 116 true).run Tryz.prog w = .ok (.tuple #[.iface 41 v, .bool true]) w := run_typeAssert_hasB Tryz.underlying116 (by kernel_rfl) v xT w
theorem mUnwrapF (v : Value) (w : World) : (Go.method 292 41 v "Unwrap").run Tryz.prog w = .ok (121, v) w := by kernel_rfl
set_option maxHeartbeats 2000000 in
theorem is_fault (b : Nat) (c : Int) (w : World) (h2 : w.cell? ⟨b, 2, none⟩ = some (.iface 29 (.int .i64 c))) :
    Calls Tryz.prog 19 #[.iface 41 (.pointer (some ⟨b, 0, none⟩)), .iface 29 (.int .i64 c)] w fun e w' => e = .returned (.bool true) ∧ w' = w := by
  refine cps fun Q hQ => ?_
  have q7 := @run_callFunc_extern Tryz.prog 43 _ ReflectliteType.typeOf Tryz.func43 (by kernel_rfl) (by kernel_rfl) (by kernel_rfl) (by kernel_rfl)
  have q11 := @run_callFunc_extern Tryz.prog 130 _ (Extern.ReflectliteType.method fun t => do Rtype.noPackHeld "Comparable" t; pure (.bool (← typeInfo t).comparable)) Tryz.func130 (by kernel_rfl) (by kernel_rfl) (by kernel_rfl) (by kernel_rfl)
  have g1 := isTypeOfC
  have g2 := isComparableC
  have g3 := mComparable
  have g4 := noIsF
  have g5 := hasUnwrapF
  have g6 := mUnwrapF
  have e1 := fun w => run_eql_iface_types (P := Tryz.prog) 41 29 (.pointer (some ⟨b, 0, none⟩)) (.int .i64 c) Tryz.underlying26 (by decide) w
  have e2 := fun w => Lib.run_eql_iface_int (P := Tryz.prog) w (t := 26) (tx := 29) (k := .i64) c c Tryz.underlying26 (by kernel_rfl) Tryz.underlying29
  rw [beq_self_eq_true] at e2
  go_enter Tryz.func19, Tryz.ntmps19
  go_wp2
  refine wp_loop_rounds 2 ?_
  rw [rounds_succ]
  go_wp2
  rw [rounds_succ]
  go_wp2
  exact hQ.out _ _ ⟨rfl, rfl⟩
end Go.Proofs.YthchcocolclpoaaGreatDoor
