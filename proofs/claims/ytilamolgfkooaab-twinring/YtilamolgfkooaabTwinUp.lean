import Derived.Test.YtilamolgfkooaabTwinB
namespace Go.Proofs.Ytilamolgfkooaab
open Go.ChangeShapes Go.WideShapes Go.ChangeAt Go.RowKit
set_option linter.unusedVariables false

theorem hup_any (w : World) :
    Calls Try.prog 5 #[] w fun e w' => e = .returned (.bool true) ∧ Below w.heap.size w w' := by
  refine cps fun Q hQ => ?_
  have k1 : ∀ w, Calls Try.prog 8 #[.int .u64 9223372036854775808, .int .u64 6] w fun e w' => e = .returned (.agg #[.int .u64 3, .int .u64 0]) ∧ Below w.heap.size w w' :=
    fun w => tmul_any (x := 9223372036854775808) (y := 6) (h := 3) (l := 0) (by decide) (by decide) ⟨by decide, by decide, by decide⟩ w
  have k2 : ∀ w, Calls Try.prog 6 #[.agg #[.int .u64 0, .int .u64 18446744073709551615], .agg #[.int .u64 0, .int .u64 1]] w fun e w' => e = .returned (.tuple #[.agg #[.int .u64 1, .int .u64 0], .bool false]) ∧ Below w.heap.size w w' :=
    fun w => tadd_any (a := 18446744073709551615) (b := 1) (h1 := 0) (l1 := 18446744073709551615) (h2 := 0) (l2 := 1) (h := 1) (l := 0) (c := false) ⟨by decide, by decide, by decide⟩ ⟨by decide, by decide, by decide⟩ ⟨by decide, by decide, by decide⟩ (by decide) w
  go_enter Try.func5, Try.ntmps5
  go_wp2_with (first
    | (go_at_call 8; refine (k1 _).mono ?_; rintro e w1 ⟨rfl, hb1⟩)
    | (go_at_call 6; refine (k2 _).mono ?_; rintro e w2 ⟨rfl, hb2⟩; obtain ⟨hc2, hf2⟩ := bcell hb2; have hz2 : w1.heap.size < w2.heap.size := by have := hb2.size; simp at this; omega))
  refine hQ.out _ _ ⟨rfl, ?_⟩
  exact bmore (bthen (bmore (bthen (Below.refl _ _) hb1) _) hb2) _
end Go.Proofs.Ytilamolgfkooaab
