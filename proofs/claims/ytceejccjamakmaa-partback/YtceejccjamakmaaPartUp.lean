import Derived.Test.YtceejccjamakmaaPartF
namespace Go.Proofs.Ytceejccjamakmaa
open Go.ChangeShapes Go.WideShapes Go.ChangeAt Go.RowKit
set_option linter.unusedVariables false

theorem hup3_any (w : World) :
    Calls Try.prog 9 #[] w fun e w' => e = .returned (.bool true) ∧ Below w.heap.size w w' := by
  refine cps fun Q hQ => ?_
  have k1 : ∀ w, Calls Try.prog 10 #[.agg #[.int .u64 0, .int .u64 7], .int .u64 2] w fun e w' => e = .returned (.tuple #[.int .u64 3, .int .u64 1, .nilIface]) ∧ Below w.heap.size w w' :=
    fun w => pdiv_any (a := 7) (h1 := 0) (l1 := 7) (d := 2) (q := 3) (r := 1) ⟨by decide, by decide, by decide⟩ (by decide) (by decide) (by decide) (by decide) w
  have k2 : ∀ w, Calls Try.prog 17 #[.agg #[.int .u64 0, .int .u64 15]] w fun e w' => e = .returned (.tuple #[.int .u64 3, .agg #[.int .u64 0, .int .u64 6]]) ∧ Below w.heap.size w w' :=
    fun w => proot_any (a := 15) (h1 := 0) (l1 := 15) (r := 3) (h := 0) (l := 6) ⟨by decide, by decide, by decide⟩ (by decide) (by decide) ⟨by decide, by decide, by decide⟩ w
  go_enter Try.func9, Try.ntmps9
  go_wp2_with (first
    | (go_at_call 10; refine (k1 _).mono ?_; rintro e w1 ⟨rfl, hb1⟩)
    | (go_at_call 17; refine (k2 _).mono ?_; rintro e w2 ⟨rfl, hb2⟩; obtain ⟨hc2, hf2⟩ := bcell hb2))
  refine hQ.out _ _ ⟨rfl, ?_⟩
  exact bmore (bthen (bthen (Below.refl _ _) hb1) hb2) _
end Go.Proofs.Ytceejccjamakmaa
