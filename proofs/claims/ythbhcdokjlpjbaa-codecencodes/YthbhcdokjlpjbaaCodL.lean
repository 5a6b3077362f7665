import Derived.Test.YthbhcdokjlpjbaaCodStub
namespace Go.Proofs.Ythbhcdokjlpjbaa
open Go.ChangeShapes Go.WideShapes Go.ChangeAt Go.RowKit
set_option linter.unusedVariables false
set_option linter.unusedSimpArgs false
set_option maxRecDepth 100000

/-- the head of all laws of this layer -/
theorem cup_any (w : World) : Calls Try.prog 9 #[] w fun e w' => e = .returned (.bool true) ∧ Below w.heap.size w w' := by
  have k1 : ∀ w, Calls Try.prog 15 #[.int .i64 8, .int .u64 68] w fun e w' => e = .returned (.tuple #[.agg #[.int .i64 1, .bool false, .int .i64 0, .int .u64 13835058055282163712], .nilIface]) ∧ Below w.heap.size w w' := by
    intro w
    have h := cdecode_real 8 68 (.inl rfl) (by decide) (by decide) w
    rw [show Nat.testBit 68 (8 - 1) = false by decide, show scaleL (strS 8 68) = 0 by decide +kernel, show wordL (strS 8 68) = 13835058055282163712 by decide +kernel] at h
    exact h
  have k2 : ∀ w, Calls Try.prog 17 #[.int .i64 8, .agg #[.int .i64 1, .bool false, .int .i64 18, .int .u64 9223372036854775808]] w fun e w' => e = .returned (.tuple #[.int .u64 125, .nilIface]) ∧ Below w.heap.size w w' := by
    intro w
    have h := cencode_fit 8 false 18 9223372036854775808 (.inl rfl) (by decide) (by decide) (by decide) (by decide +kernel) w
    rw [show patOf 8 false (cutL 8 18 9223372036854775808) = 125 by decide +kernel] at h
    exact h
  refine cps fun Q hQ => ?_
  go_enter Try.func9, Try.ntmps9
  go_wp2_with (first
    | (go_at_call 15; refine (k1 _).mono ?_; rintro e w1 ⟨rfl, hb1⟩)
    | (go_at_call 17; refine (k2 _).mono ?_; rintro e w2 ⟨rfl, hb2⟩; have hc := fun b o h => hb2.cell (p := ⟨b, o, none⟩) h; have hz := hb2.size; simp at hz; have hz' : w1.heap.size < w2.heap.size := hz))
  refine hQ.out _ _ ⟨rfl, ?_⟩
  exact cthen (cmore hb1 _) hb2
end Go.Proofs.Ythbhcdokjlpjbaa
