import Derived.Test.YtfmhhcmjcmechaaJoin2
namespace Go.Proofs.Ytfmhhcmjcmechaa
open Go.ChangeShapes Go.WideShapes Go.ChangeAt Go.RowKit
set_option linter.unusedVariables false
set_option linter.unusedSimpArgs false
set_option maxRecDepth 100000

theorem orderNexts_walk (n ip : Int) (wn : (Lit.int .i64 n).wf = true) (wp : (Lit.int .u64 ip).wf = true) (w : World) :
    Calls Try.prog 5 #[.int .i64 n, .int .u64 ip] w fun e w' => e = .returned (.bool true) ∧ Below w.heap.size w w' := by
  obtain ⟨p, rfl, hp⟩ := nat_of_u64 wp
  clear wn wp
  refine cps fun Q hQ => ?_
  cases hisw : isW n
  · have k0 := onext_no n p hisw
    have r0 := next8_no n p hisw
    have k1 := oprev_no n p hisw
    have r1 := prev8_no n p hisw
    have kc := code_any 2
    rw [show codeOf 2 = 2 from rfl] at kc
    unfold codeO at *
    clear hisw hp
    go_enter Try.func5, Try.ntmps5
    go_wp2_with (first
      | (go_at_call 9; go_must (refine (oup_any _).mono ?_); rintro e w1 ⟨rfl, hb1⟩; have HB1 : Hid (Below _ _ _) := hb1; clear hb1)
      | (go_at_call 17; go_must (refine (k0 _).mono ?_); rintro e w2 ⟨rfl, hb2⟩; have HB2 : Hid (Below _ _ _) := hb2; clear hb2)
      | (go_at_call 18; go_must (refine (k1 _).mono ?_); rintro e w3 ⟨rfl, hb3⟩; have HB3 : Hid (Below _ _ _) := hb3; clear hb3)
      | (go_at_call 19; go_must (refine (r0 _).mono ?_); rintro e w4 ⟨rfl, hb4⟩; have HB4 : Hid (Below _ _ _) := hb4; clear hb4)
      | (go_at_call 20; go_must (refine (r1 _).mono ?_); rintro e w5 ⟨rfl, hb5⟩; have HB5 : Hid (Below _ _ _) := hb5; clear hb5)
      | (go_at_call 12; refine (kc _).mono ?_; rintro e wx ⟨rfl, hwx⟩; rw [hwx]; clear hwx wx))
    all_goals exact hQ.out _ _ ⟨by simp, cthen (cthen (cthen (cthen (cthen (Below.refl _ _) HB1.out) HB2.out) HB3.out) HB4.out) HB5.out⟩
  · obtain ⟨m, rfl, hm⟩ := isW_yes hisw
    have k0 := onext_ok m p hm hp
    have r0 := next8_ok m p hm 
    have k1 := oprev_ok m p hm hp
    have r1 := prev8_ok m p hm 
    have kc := code_nil
    clear hisw hm hp
    generalize nextO m p = v0 at *
    generalize prevO m p = v1 at *
    go_enter Try.func5, Try.ntmps5
    go_wp2_with (first
      | (go_at_call 9; go_must (refine (oup_any _).mono ?_); rintro e w1 ⟨rfl, hb1⟩; have HB1 : Hid (Below _ _ _) := hb1; clear hb1)
      | (go_at_call 17; go_must (refine (k0 _).mono ?_); rintro e w2 ⟨rfl, hb2⟩; have HB2 : Hid (Below _ _ _) := hb2; clear hb2)
      | (go_at_call 18; go_must (refine (k1 _).mono ?_); rintro e w3 ⟨rfl, hb3⟩; have HB3 : Hid (Below _ _ _) := hb3; clear hb3)
      | (go_at_call 19; go_must (refine (r0 _).mono ?_); rintro e w4 ⟨rfl, hb4⟩; have HB4 : Hid (Below _ _ _) := hb4; clear hb4)
      | (go_at_call 20; go_must (refine (r1 _).mono ?_); rintro e w5 ⟨rfl, hb5⟩; have HB5 : Hid (Below _ _ _) := hb5; clear hb5)
      | (go_at_call 12; refine (kc _).mono ?_; rintro e wx ⟨rfl, hwx⟩; rw [hwx]; clear hwx wx))
    all_goals exact hQ.out _ _ ⟨by simp, cthen (cthen (cthen (cthen (cthen (Below.refl _ _) HB1.out) HB2.out) HB3.out) HB4.out) HB5.out⟩
end Go.Proofs.Ytfmhhcmjcmechaa
