import Derived.Test.YthchcocolclpoabShapeC
namespace Go.Proofs.Ythchcocolclpoab
open Go.ChangeShapes Go.WideShapes Go.ChangeAt Go.RowKit
set_option linter.unusedVariables false
set_option maxRecDepth 100000

theorem shapePatterns_walk (n r : Int) (wn : (Lit.int .i64 n).wf = true) (wr : (Lit.int .i64 r).wf = true) (w : World) :
    Calls Try.prog 4 #[.int .i64 n, .int .i64 r] w fun e w' => e = .returned (.bool true) ∧ Below w.heap.size w w' := by
  refine cps fun Q hQ => ?_
  cases hb : isW n
  · have k1 := fun w => pattern_no n r hb w
    have k3 := fun w => rpattern_no n r hb w
    have k5 := fun w => code_any 2 w
    rw [show codeOf 2 = 2 from rfl] at k5
    clear hb wn wr
    go_enter Try.func4, Try.ntmps4
    go_wp2_with (first
      | (go_at_call 6; refine (sup_any _).mono ?_; rintro e w1 ⟨rfl, hb1⟩)
      | (go_at_call 10; refine (k1 _).mono ?_; rintro e w2 ⟨rfl, hb2⟩)
      | (go_at_call 11; refine (k3 _).mono ?_; rintro e w' ⟨rfl, hw⟩; rw [hw]; clear hw w')
      | (go_at_call 9; refine (k5 _).mono ?_; rintro e w' ⟨rfl, hw⟩; rw [hw]; clear hw w'))
    exact hQ.out _ _ ⟨by simp, bthenS hb1 hb2⟩
  · obtain ⟨m, rfl, hm⟩ := isW_yes hb
    cases hp : patOk m r
    · have k1 := fun w => pattern_bad m r hm hp w
      have k3 := fun w => rpattern_bad m r hm hp w
      have k5 := fun w => code_any 1 w
      rw [show codeOf 1 = 1 from rfl] at k5
      clear hb wn wr hm hp
      go_enter Try.func4, Try.ntmps4
      go_wp2_with (first
        | (go_at_call 6; refine (sup_any _).mono ?_; rintro e w1 ⟨rfl, hb1⟩)
        | (go_at_call 10; refine (k1 _).mono ?_; rintro e w2 ⟨rfl, hb2⟩)
        | (go_at_call 11; refine (k3 _).mono ?_; rintro e w3 ⟨rfl, hb3⟩)
        | (go_at_call 9; refine (k5 _).mono ?_; rintro e w' ⟨rfl, hw⟩; rw [hw]; clear hw w'))
      exact hQ.out _ _ ⟨by simp, bthenS (bthenS hb1 hb2) hb3⟩
    · have k1 := fun w => pattern_ok m r hm hp w
      have k3 := fun w => rpattern_ok m r hm hp w
      have k5 := fun w => code_nil w
      clear hb wn wr hm hp
      generalize u64Of r % 2 ^ m = y at *
      go_enter Try.func4, Try.ntmps4
      go_wp2_with (first
        | (go_at_call 6; refine (sup_any _).mono ?_; rintro e w1 ⟨rfl, hb1⟩)
        | (go_at_call 10; refine (k1 _).mono ?_; rintro e w2 ⟨rfl, hb2⟩)
        | (go_at_call 11; refine (k3 _).mono ?_; rintro e w3 ⟨rfl, hb3⟩)
        | (go_at_call 9; refine (k5 _).mono ?_; rintro e w' ⟨rfl, hw⟩; rw [hw]; clear hw w'))
      exact hQ.out _ _ ⟨by simp, bthenS (bthenS hb1 hb2) hb3⟩
end Go.Proofs.Ythchcocolclpoab
