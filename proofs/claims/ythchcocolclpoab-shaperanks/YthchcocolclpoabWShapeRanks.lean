import Derived.Test.YthchcocolclpoabShapeC
namespace Go.Proofs.Ythchcocolclpoab
open Go.ChangeShapes Go.WideShapes Go.ChangeAt Go.RowKit
set_option linter.unusedVariables false
set_option maxRecDepth 100000

theorem shapeRanks_walk (n p : Int) (wn : (Lit.int .i64 n).wf = true) (wp : (Lit.int .u64 p).wf = true) (w : World) :
    Calls Try.prog 3 #[.int .i64 n, .int .u64 p] w fun e w' => e = .returned (.bool true) ∧ Below w.heap.size w w' := by
  obtain ⟨x, rfl, hx⟩ := nat_of_u64 wp
  refine cps fun Q hQ => ?_
  cases hb : isW n
  · have k1 := fun w => rank_no n x hb w
    have k3 := fun w => rrank_no n x hb w
    have k5 := fun w => code_any 2 w
    rw [show codeOf 2 = 2 from rfl] at k5
    clear hb wn wp hx
    go_enter Try.func3, Try.ntmps3
    go_wp2_with (first
      | (go_at_call 6; refine (sup_any _).mono ?_; rintro e w1 ⟨rfl, hb1⟩)
      | (go_at_call 7; refine (k1 _).mono ?_; rintro e w2 ⟨rfl, hb2⟩)
      | (go_at_call 8; refine (k3 _).mono ?_; rintro e w' ⟨rfl, hw⟩; rw [hw]; clear hw w')
      | (go_at_call 9; refine (k5 _).mono ?_; rintro e w' ⟨rfl, hw⟩; rw [hw]; clear hw w'))
    exact hQ.out _ _ ⟨by simp, bthenS hb1 hb2⟩
  · obtain ⟨m, rfl, hm⟩ := isW_yes hb
    have k1 := fun w => rank_ok m x hm w
    have k3 := fun w => rrank_ok m x hm w
    have k5 := fun w => code_nil w
    clear hb wn wp hx hm
    generalize extOf x m = y at *
    go_enter Try.func3, Try.ntmps3
    go_wp2_with (first
      | (go_at_call 6; refine (sup_any _).mono ?_; rintro e w1 ⟨rfl, hb1⟩)
      | (go_at_call 7; refine (k1 _).mono ?_; rintro e w2 ⟨rfl, hb2⟩)
      | (go_at_call 8; refine (k3 _).mono ?_; rintro e w3 ⟨rfl, hb3⟩)
      | (go_at_call 9; refine (k5 _).mono ?_; rintro e w' ⟨rfl, hw⟩; rw [hw]; clear hw w'))
    exact hQ.out _ _ ⟨by simp, bthenS (bthenS hb1 hb2) hb3⟩
end Go.Proofs.Ythchcocolclpoab
