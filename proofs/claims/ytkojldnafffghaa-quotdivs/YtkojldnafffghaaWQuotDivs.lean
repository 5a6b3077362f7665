import Derived.Test.YtkojldnafffghaaJoin8
namespace Go.Proofs.Ytkojldnafffghaa
open Go.ChangeShapes Go.WideShapes Go.ChangeAt Go.RowKit
set_option linter.unusedVariables false
set_option linter.unusedSimpArgs false
set_option maxRecDepth 100000

theorem quotDivs_walk (n ia ib : Int) (wn : (Lit.int .i64 n).wf = true) (wa : (Lit.int .u64 ia).wf = true) (wb : (Lit.int .u64 ib).wf = true) (w : World) :
    Calls Try.prog 4 #[.int .i64 n, .int .u64 ia, .int .u64 ib] w fun e w' => e = .returned (.bool true) ∧ Below w.heap.size w w' := by
  obtain ⟨a, rfl, ha⟩ := nat_of_u64 wa
  obtain ⟨b, rfl, hb⟩ := nat_of_u64 wb
  clear wn wa wb
  refine cps fun Q hQ => ?_
  cases hisw : isW n
  · have k1 := qdiv_no n a b hisw
    have k3 := divs11_no n a b hisw
    have kc := code_any 2
    rw [show codeOf 2 = 2 from rfl] at kc
    unfold codeV at *
    clear hisw ha hb
    go_enter Try.func4, Try.ntmps4
    go_wp2_with (first
      | (go_at_call 8; go_must (refine (quotup_any _).mono ?_); rintro e w1 ⟨rfl, hb1⟩; have HB1 : Hid (Below _ _ _) := hb1; clear hb1)
      | (go_at_call 12; go_must (refine (k1 _).mono ?_); rintro e w2 ⟨rfl, hb2⟩; have HB2 : Hid (Below _ _ _) := hb2; clear hb2)
      | (go_at_call 13; go_must (refine (k3 _).mono ?_); rintro e w3 ⟨rfl, hb3⟩; have HB3 : Hid (Below _ _ _) := hb3; clear hb3)
      | (go_at_call 11; go_must (refine (kc _).mono ?_); rintro e wx ⟨rfl, hwx⟩; rw [hwx]; clear hwx wx))
    all_goals exact hQ.out _ _ ⟨by simp, cthen (cthen (cthen (Below.refl _ _) HB1.out) HB2.out) HB3.out⟩
  · obtain ⟨m, rfl, hm⟩ := isW_yes hisw
    have k1 := qdiv_ok m a b hm ha hb
    have k3 := divs11_ok m a b hm ha hb
    have kc := code_nil
    clear hisw ha hb hm
    generalize patQ m a b = V at *
    go_enter Try.func4, Try.ntmps4
    go_wp2_with (first
      | (go_at_call 8; go_must (refine (quotup_any _).mono ?_); rintro e w1 ⟨rfl, hb1⟩; have HB1 : Hid (Below _ _ _) := hb1; clear hb1)
      | (go_at_call 12; go_must (refine (k1 _).mono ?_); rintro e w2 ⟨rfl, hb2⟩; have HB2 : Hid (Below _ _ _) := hb2; clear hb2)
      | (go_at_call 13; go_must (refine (k3 _).mono ?_); rintro e w3 ⟨rfl, hb3⟩; have HB3 : Hid (Below _ _ _) := hb3; clear hb3)
      | (go_at_call 11; go_must (refine (kc _).mono ?_); rintro e wx ⟨rfl, hwx⟩; rw [hwx]; clear hwx wx))
    all_goals exact hQ.out _ _ ⟨by simp, cthen (cthen (cthen (Below.refl _ _) HB1.out) HB2.out) HB3.out⟩
end Go.Proofs.Ytkojldnafffghaa
