import Derived.Test.YtllahgcifichbaaJoin6
namespace Go.Proofs.Ytllahgcifichbaa
open Go.ChangeShapes Go.WideShapes Go.ChangeAt Go.RowKit
set_option linter.unusedVariables false
set_option linter.unusedSimpArgs false
set_option maxRecDepth 100000

theorem rootSqrts_walk (n ia : Int) (wn : (Lit.int .i64 n).wf = true) (wa : (Lit.int .u64 ia).wf = true) (w : World) :
    Calls Try.prog 4 #[.int .i64 n, .int .u64 ia] w fun e w' => e = .returned (.bool true) ∧ Below w.heap.size w w' := by
  obtain ⟨a, rfl, ha⟩ := nat_of_u64 wa
  clear wn wa
  refine cps fun Q hQ => ?_
  cases hisw : isW n
  · have k1 := rootq_no n a hisw
    have k3 := sqrts12_no n a hisw
    have kc := code_any 2
    rw [show codeOf 2 = 2 from rfl] at kc
    unfold codeV at *
    clear hisw ha
    go_enter Try.func4, Try.ntmps4
    go_wp2_with (first
      | (go_at_call 7; go_must (refine (rootup_any _).mono ?_); rintro e w1 ⟨rfl, hb1⟩; have HB1 : Hid (Below _ _ _) := hb1; clear hb1)
      | (go_at_call 11; go_must (refine (k1 _).mono ?_); rintro e w2 ⟨rfl, hb2⟩; have HB2 : Hid (Below _ _ _) := hb2; clear hb2)
      | (go_at_call 12; go_must (refine (k3 _).mono ?_); rintro e w3 ⟨rfl, hb3⟩; have HB3 : Hid (Below _ _ _) := hb3; clear hb3)
      | (go_at_call 10; go_must (refine (kc _).mono ?_); rintro e wx ⟨rfl, hwx⟩; rw [hwx]; clear hwx wx))
    all_goals exact hQ.out _ _ ⟨by simp, cthen (cthen (cthen (Below.refl _ _) HB1.out) HB2.out) HB3.out⟩
  · obtain ⟨m, rfl, hm⟩ := isW_yes hisw
    have k1 := rootq_ok m a hm ha
    have k3 := sqrts12_ok m a hm ha
    have kc := code_nil
    clear hisw ha hm
    generalize patT2 m a = V at *
    go_enter Try.func4, Try.ntmps4
    go_wp2_with (first
      | (go_at_call 7; go_must (refine (rootup_any _).mono ?_); rintro e w1 ⟨rfl, hb1⟩; have HB1 : Hid (Below _ _ _) := hb1; clear hb1)
      | (go_at_call 11; go_must (refine (k1 _).mono ?_); rintro e w2 ⟨rfl, hb2⟩; have HB2 : Hid (Below _ _ _) := hb2; clear hb2)
      | (go_at_call 12; go_must (refine (k3 _).mono ?_); rintro e w3 ⟨rfl, hb3⟩; have HB3 : Hid (Below _ _ _) := hb3; clear hb3)
      | (go_at_call 10; go_must (refine (kc _).mono ?_); rintro e wx ⟨rfl, hwx⟩; rw [hwx]; clear hwx wx))
    all_goals exact hQ.out _ _ ⟨by simp, cthen (cthen (cthen (Below.refl _ _) HB1.out) HB2.out) HB3.out⟩
end Go.Proofs.Ytllahgcifichbaa
