import Derived.Test.YtejibojcfobdkaaJoin6
namespace Go.Proofs.Ytejibojcfobdkaa
open Go.ChangeShapes Go.WideShapes Go.ChangeAt Go.RowKit
set_option linter.unusedVariables false
set_option linter.unusedSimpArgs false
set_option maxRecDepth 100000

theorem prodPowers_walk (n ia k : Int) (wn : (Lit.int .i64 n).wf = true) (wa : (Lit.int .u64 ia).wf = true) (wk : (Lit.int .i64 k).wf = true) (w : World) :
    Calls Try.prog 5 #[.int .i64 n, .int .u64 ia, .int .i64 k] w fun e w' => e = .returned (.bool true) ∧ Below w.heap.size w w' := by
  obtain ⟨a, rfl, ha⟩ := nat_of_u64 wa
  clear wn wa wk
  refine cps fun Q hQ => ?_
  cases hisw : isW n
  · have k1 := ppower_no n a k hisw
    have k3 := power10_no n a k hisw
    have kc := code_any 2
    rw [show codeOf 2 = 2 from rfl] at kc
    unfold codeV at *
    clear hisw ha
    go_enter Try.func5, Try.ntmps5
    go_wp2_with (first
      | (go_at_call 8; go_must (refine (produp_any _).mono ?_); rintro e w1 ⟨rfl, hb1⟩; have HB1 : Hid (Below _ _ _) := hb1; clear hb1)
      | (go_at_call 14; go_must (refine (k1 _).mono ?_); rintro e w2 ⟨rfl, hb2⟩; have HB2 : Hid (Below _ _ _) := hb2; clear hb2)
      | (go_at_call 15; go_must (refine (k3 _).mono ?_); rintro e w3 ⟨rfl, hb3⟩; have HB3 : Hid (Below _ _ _) := hb3; clear hb3)
      | (go_at_call 11; go_must (refine (kc _).mono ?_); rintro e wx ⟨rfl, hwx⟩; rw [hwx]; clear hwx wx))
    all_goals exact hQ.out _ _ ⟨by simp, cthen (cthen (cthen (Below.refl _ _) HB1.out) HB2.out) HB3.out⟩
  · obtain ⟨m, rfl, hm⟩ := isW_yes hisw
    by_cases hk : k < 0 ∨ 1024 < k
    · have k1 := ppower_bad m a k hm ha hk
      have k3 := power10_bad m a k hm hk
      have kc := code_any 1
      rw [show codeOf 1 = 1 from rfl] at kc
      unfold codeV at *
      clear hisw ha hm hk
      go_enter Try.func5, Try.ntmps5
      go_wp2_with (first
        | (go_at_call 8; go_must (refine (produp_any _).mono ?_); rintro e w1 ⟨rfl, hb1⟩; have HB1 : Hid (Below _ _ _) := hb1; clear hb1)
        | (go_at_call 14; go_must (refine (k1 _).mono ?_); rintro e w2 ⟨rfl, hb2⟩; have HB2 : Hid (Below _ _ _) := hb2; clear hb2)
        | (go_at_call 15; go_must (refine (k3 _).mono ?_); rintro e w3 ⟨rfl, hb3⟩; have HB3 : Hid (Below _ _ _) := hb3; clear hb3)
        | (go_at_call 11; go_must (refine (kc _).mono ?_); rintro e wx ⟨rfl, hwx⟩; rw [hwx]; clear hwx wx))
      all_goals exact hQ.out _ _ ⟨by simp, cthen (cthen (cthen (Below.refl _ _) HB1.out) HB2.out) HB3.out⟩
    · by_cases h2 : vK m a = 2
      · have k1 := ppower_nar m a k hm ha (by omega) h2
        have k3 := power10_nar m a k hm (by omega) h2
        have kc := code_nil
        clear hisw ha hm hk h2
        generalize 2 ^ (m - 1) = V at *
        go_enter Try.func5, Try.ntmps5
        go_wp2_with (first
          | (go_at_call 8; go_must (refine (produp_any _).mono ?_); rintro e w1 ⟨rfl, hb1⟩; have HB1 : Hid (Below _ _ _) := hb1; clear hb1)
          | (go_at_call 14; go_must (refine (k1 _).mono ?_); rintro e w2 ⟨rfl, hb2⟩; have HB2 : Hid (Below _ _ _) := hb2; clear hb2)
          | (go_at_call 15; go_must (refine (k3 _).mono ?_); rintro e w3 ⟨rfl, hb3⟩; have HB3 : Hid (Below _ _ _) := hb3; clear hb3)
          | (go_at_call 11; go_must (refine (kc _).mono ?_); rintro e wx ⟨rfl, hwx⟩; rw [hwx]; clear hwx wx))
        all_goals exact hQ.out _ _ ⟨by simp, cthen (cthen (cthen (Below.refl _ _) HB1.out) HB2.out) HB3.out⟩
      · obtain ⟨j, rfl⟩ : ∃ j : Nat, k = j := ⟨k.toNat, by omega⟩
        have k1 := ppower_ok m a j hm ha (by omega) h2
        have k3 := power10_ok m a j hm ha (by omega) h2
        have kc := code_nil
        clear hisw ha hm hk h2
        generalize powP m a j = V at *
        go_enter Try.func5, Try.ntmps5
        go_wp2_with (first
          | (go_at_call 8; go_must (refine (produp_any _).mono ?_); rintro e w1 ⟨rfl, hb1⟩; have HB1 : Hid (Below _ _ _) := hb1; clear hb1)
          | (go_at_call 14; go_must (refine (k1 _).mono ?_); rintro e w2 ⟨rfl, hb2⟩; have HB2 : Hid (Below _ _ _) := hb2; clear hb2)
          | (go_at_call 15; go_must (refine (k3 _).mono ?_); rintro e w3 ⟨rfl, hb3⟩; have HB3 : Hid (Below _ _ _) := hb3; clear hb3)
          | (go_at_call 11; go_must (refine (kc _).mono ?_); rintro e wx ⟨rfl, hwx⟩; rw [hwx]; clear hwx wx))
        all_goals exact hQ.out _ _ ⟨by simp, cthen (cthen (cthen (Below.refl _ _) HB1.out) HB2.out) HB3.out⟩
end Go.Proofs.Ytejibojcfobdkaa
