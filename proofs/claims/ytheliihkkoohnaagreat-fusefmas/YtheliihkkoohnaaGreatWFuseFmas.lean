import Derived.Test.YtheliihkkoohnaaGreatJoin11
namespace Go.Proofs.YtheliihkkoohnaaGreat
open Go.ChangeShapes Go.WideShapes Go.ChangeAt Go.RowKit
set_option linter.unusedVariables false
set_option linter.unusedSimpArgs false
set_option maxRecDepth 100000

theorem fuseFmas_walk (n ia ib ic : Int) (wn : (Lit.int .i64 n).wf = true) (wa : (Lit.int .u64 ia).wf = true) (wb : (Lit.int .u64 ib).wf = true) (wc : (Lit.int .u64 ic).wf = true) (w : World) :
    Calls Tryz.prog 3 #[.int .i64 n, .int .u64 ia, .int .u64 ib, .int .u64 ic] w fun e w' => e = .returned (.bool true) ∧ Below w.heap.size w w' := by
  obtain ⟨a, rfl, ha⟩ := nat_of_u64 wa
  obtain ⟨b, rfl, hb⟩ := nat_of_u64 wb
  obtain ⟨c, rfl, hc⟩ := nat_of_u64 wc
  clear wn wa wb wc
  refine cps fun Q hQ => ?_
  cases hisw : isW n
  · have k0 := ffma_no n a b c hisw
    have r0 := fmas13_no n a b c hisw
    have kc := code_any 2
    rw [show codeOf 2 = 2 from rfl] at kc
    unfold codeV at *
    clear hisw ha hb hc
    go_enter Tryz.func3, Tryz.ntmps3
    go_wp2_with (first
      | (go_at_call 8; go_must (refine (r0 _).mono ?_); rintro e w3 ⟨rfl, hb3⟩; have HB3 : Hid (Below _ _ _) := hb3; clear hb3)
      | (go_at_call 7; go_must (refine (k0 _).mono ?_); rintro e w2 ⟨rfl, hb2⟩; have HB2 : Hid (Below _ _ _) := hb2; clear hb2)
      | (go_at_call 6; go_must (refine (fuseup_any _).mono ?_); rintro e w1 ⟨rfl, hb1⟩; have HB1 : Hid (Below _ _ _) := hb1; clear hb1)
      | (go_at_call 9; go_must (refine (kc _).mono ?_); rintro e wx ⟨rfl, hwx⟩; rw [hwx]; clear hwx wx))
    all_goals exact hQ.out _ _ ⟨by simp, cthen (cthen (cthen (Below.refl _ _) HB1.out) HB2.out) HB3.out⟩
  · obtain ⟨m, rfl, hm⟩ := isW_yes hisw
    have k0 := ffma_ok m a b c hm ha hb hc
    have r0 := fmas13_ok m a b c hm ha hb hc
    have kc := code_nil
    clear hisw hm ha hb hc
    generalize patF m a b c = V0 at *
    go_enter Tryz.func3, Tryz.ntmps3
    go_wp2_with (first
      | (go_at_call 8; go_must (refine (r0 _).mono ?_); rintro e w3 ⟨rfl, hb3⟩; have HB3 : Hid (Below _ _ _) := hb3; clear hb3)
      | (go_at_call 7; go_must (refine (k0 _).mono ?_); rintro e w2 ⟨rfl, hb2⟩; have HB2 : Hid (Below _ _ _) := hb2; clear hb2)
      | (go_at_call 6; go_must (refine (fuseup_any _).mono ?_); rintro e w1 ⟨rfl, hb1⟩; have HB1 : Hid (Below _ _ _) := hb1; clear hb1)
      | (go_at_call 9; go_must (refine (kc _).mono ?_); rintro e wx ⟨rfl, hwx⟩; rw [hwx]; clear hwx wx))
    all_goals exact hQ.out _ _ ⟨by simp, cthen (cthen (cthen (Below.refl _ _) HB1.out) HB2.out) HB3.out⟩
end Go.Proofs.YtheliihkkoohnaaGreat
