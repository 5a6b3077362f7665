import Derived.Test.YtkojldnafffghaaJoin8
namespace Go.Proofs.Ytkojldnafffghaa
open Go.ChangeShapes Go.WideShapes Go.ChangeAt Go.RowKit
set_option linter.unusedVariables false
set_option linter.unusedSimpArgs false
set_option maxRecDepth 100000

theorem quotInvs_walk (n ia : Int) (wn : (Lit.int .i64 n).wf = true) (wa : (Lit.int .u64 ia).wf = true) (w : World) :
    Calls Try.prog 5 #[.int .i64 n, .int .u64 ia] w fun e w' => e = .returned (.bool true) ∧ Below w.heap.size w w' := by
  have he := fun w a b => Lib.run_eql_iface_int (P := Try.prog) w (t := 29) (tx := 43) (k := .i64) a b Try.underlying29 (by kernel_rfl) Try.underlying43
  have hnl := nil_not_code
  obtain ⟨a, rfl, ha⟩ := nat_of_u64 wa
  clear wn wa
  refine cps fun Q hQ => ?_
  have kis := is_width n
  cases hisw : isW n
  · have k1 := qinv_no n a hisw
    rw [hisw] at kis
    unfold codeV at *
    clear hisw ha
    go_enter Try.func5, Try.ntmps5
    go_wp2_with (first
      | (go_at_call 15; go_must (refine (kis _).mono ?_); rintro e wx ⟨rfl, hwx⟩; rw [hwx]; clear hwx wx)
      | (go_at_call 14; go_must (refine (k1 _).mono ?_); rintro e w2 ⟨rfl, hb2⟩; have HB2 : Hid (Below _ _ _) := hb2; clear hb2)
      | (go_at_call 8; go_must (refine (quotup_any _).mono ?_); rintro e w1 ⟨rfl, hb1⟩; have HB1 : Hid (Below _ _ _) := hb1; clear hb1))
    all_goals exact hQ.out _ _ ⟨by first | rfl | simp, cthen (cthen (Below.refl _ _) HB1.out) HB2.out⟩
  · obtain ⟨m, rfl, hm⟩ := isW_yes hisw
    rw [hisw] at kis
    have hw := wd_le hm
    have q2 : IntKind.i64.wrap ((m : Int) - 2) = ((m - 2 : Nat) : Int) := by rw [wrapI (by omega)]; omega
    have kp := power_any (m - 2) (by omega)
    have k1 := qinv_ok m a hm ha
    have k3 := div11_any m (2 ^ (m - 2)) a hm (one_lt m hm) ha
    clear hisw ha hm hw
    generalize patQ m (2 ^ (m - 2)) a = V at *
    generalize 2 ^ (m - 2) = one at *
    generalize m - 2 = n2 at *
    go_enter Try.func5, Try.ntmps5
    go_wp2_with (first
      | (go_at_call 16; go_must (refine (k3 _).mono ?_); rintro e w3 ⟨rfl, hb3⟩; have HB3 : Hid (Below _ _ _) := hb3; clear hb3)
      | (go_at_call 17; go_must (refine (kp _).mono ?_); rintro e wx ⟨rfl, hwx⟩; rw [hwx]; clear hwx wx)
      | (go_at_call 15; go_must (refine (kis _).mono ?_); rintro e wx ⟨rfl, hwx⟩; rw [hwx]; clear hwx wx)
      | (go_at_call 14; go_must (refine (k1 _).mono ?_); rintro e w2 ⟨rfl, hb2⟩; have HB2 : Hid (Below _ _ _) := hb2; clear hb2)
      | (go_at_call 8; go_must (refine (quotup_any _).mono ?_); rintro e w1 ⟨rfl, hb1⟩; have HB1 : Hid (Below _ _ _) := hb1; clear hb1))
    all_goals exact hQ.out _ _ ⟨by first | rfl | simp, cthen (cthen (cthen (Below.refl _ _) HB1.out) HB2.out) HB3.out⟩
end Go.Proofs.Ytkojldnafffghaa
