import Derived.Test.YtfmhhcmjcmechaaJoin2
namespace Go.Proofs.Ytfmhhcmjcmechaa
open Go.ChangeShapes Go.WideShapes Go.ChangeAt Go.RowKit
set_option linter.unusedVariables false
set_option linter.unusedSimpArgs false
set_option maxRecDepth 100000

theorem orderSigns_walk (n ip : Int) (wn : (Lit.int .i64 n).wf = true) (wp : (Lit.int .u64 ip).wf = true) (w : World) :
    Calls Try.prog 6 #[.int .i64 n, .int .u64 ip] w fun e w' => e = .returned (.bool true) ∧ Below w.heap.size w w' := by
  obtain ⟨p, rfl, hp⟩ := nat_of_u64 wp
  clear wn wp
  refine cps fun Q hQ => ?_
  cases hisw : isW n
  · have k0 := oneg_no n p hisw
    have r0 := neg8_no n p hisw
    have k1 := oabs_no n p hisw
    have r1 := abs8_no n p hisw
    have k2 := osign_no n p hisw
    have r2 := sign8_no n p hisw
    have kc := code_any 2
    rw [show codeOf 2 = 2 from rfl] at kc
    unfold codeO at *
    clear hisw hp
    go_enter Try.func6, Try.ntmps6
    go_wp2_with (first
      | (go_at_call 9; go_must (refine (oup_any _).mono ?_); rintro e w1 ⟨rfl, hb1⟩; have HB1 : Hid (Below _ _ _) := hb1; clear hb1)
      | (go_at_call 21; go_must (refine (k0 _).mono ?_); rintro e w2 ⟨rfl, hb2⟩; have HB2 : Hid (Below _ _ _) := hb2; clear hb2)
      | (go_at_call 22; go_must (refine (k1 _).mono ?_); rintro e w3 ⟨rfl, hb3⟩; have HB3 : Hid (Below _ _ _) := hb3; clear hb3)
      | (go_at_call 23; go_must (refine (k2 _).mono ?_); rintro e w4 ⟨rfl, hb4⟩; have HB4 : Hid (Below _ _ _) := hb4; clear hb4)
      | (go_at_call 24; go_must (refine (r0 _).mono ?_); rintro e w5 ⟨rfl, hb5⟩; have HB5 : Hid (Below _ _ _) := hb5; clear hb5)
      | (go_at_call 25; go_must (refine (r1 _).mono ?_); rintro e w6 ⟨rfl, hb6⟩; have HB6 : Hid (Below _ _ _) := hb6; clear hb6)
      | (go_at_call 26; go_must (refine (r2 _).mono ?_); rintro e w7 ⟨rfl, hb7⟩; have HB7 : Hid (Below _ _ _) := hb7; clear hb7)
      | (go_at_call 12; refine (kc _).mono ?_; rintro e wx ⟨rfl, hwx⟩; rw [hwx]; clear hwx wx))
    all_goals exact hQ.out _ _ ⟨by simp, cthen (cthen (cthen (cthen (cthen (cthen (cthen (Below.refl _ _) HB1.out) HB2.out) HB3.out) HB4.out) HB5.out) HB6.out) HB7.out⟩
  · obtain ⟨m, rfl, hm⟩ := isW_yes hisw
    have k0 := oneg_ok m p hm hp
    have r0 := neg8_ok m p hm hp
    have k1 := oabs_ok m p hm hp
    have r1 := abs8_ok m p hm hp
    have k2 := osign_ok m p hm hp
    have r2 := sign8_ok m p hm 
    have kc := code_nil
    have kd := code_any 9
    rw [show codeOf 9 = 9 from rfl] at kd
    clear hisw hm hp
    generalize negO m p = v0 at *
    generalize absO m p = v1 at *
    generalize cmpR m p 0 = v2 at *
    cases hnb : narB m p
    · rw [hnb] at k2 r2
      rw [if_neg (by decide)] at k2 r2
      go_enter Try.func6, Try.ntmps6
      go_wp2_with (first
        | (go_at_call 9; go_must (refine (oup_any _).mono ?_); rintro e w1 ⟨rfl, hb1⟩; have HB1 : Hid (Below _ _ _) := hb1; clear hb1)
        | (go_at_call 21; go_must (refine (k0 _).mono ?_); rintro e w2 ⟨rfl, hb2⟩; have HB2 : Hid (Below _ _ _) := hb2; clear hb2)
        | (go_at_call 22; go_must (refine (k1 _).mono ?_); rintro e w3 ⟨rfl, hb3⟩; have HB3 : Hid (Below _ _ _) := hb3; clear hb3)
        | (go_at_call 23; go_must (refine (k2 _).mono ?_); rintro e w4 ⟨rfl, hb4⟩; have HB4 : Hid (Below _ _ _) := hb4; clear hb4)
        | (go_at_call 24; go_must (refine (r0 _).mono ?_); rintro e w5 ⟨rfl, hb5⟩; have HB5 : Hid (Below _ _ _) := hb5; clear hb5)
        | (go_at_call 25; go_must (refine (r1 _).mono ?_); rintro e w6 ⟨rfl, hb6⟩; have HB6 : Hid (Below _ _ _) := hb6; clear hb6)
        | (go_at_call 26; go_must (refine (r2 _).mono ?_); rintro e w7 ⟨rfl, hb7⟩; have HB7 : Hid (Below _ _ _) := hb7; clear hb7)
        | (go_at_call_of 12 (9 : Int); refine (kd _).mono ?_; rintro e wx ⟨rfl, hwx⟩; rw [hwx]; clear hwx wx)
        | (go_at_call 12; refine (kc _).mono ?_; rintro e wx ⟨rfl, hwx⟩; rw [hwx]; clear hwx wx))
      all_goals exact hQ.out _ _ ⟨by simp, cthen (cthen (cthen (cthen (cthen (cthen (cthen (Below.refl _ _) HB1.out) HB2.out) HB3.out) HB4.out) HB5.out) HB6.out) HB7.out⟩
    · rw [hnb] at k2 r2
      rw [if_pos rfl] at k2 r2
      unfold codeO at *
      go_enter Try.func6, Try.ntmps6
      go_wp2_with (first
        | (go_at_call 9; go_must (refine (oup_any _).mono ?_); rintro e w1 ⟨rfl, hb1⟩; have HB1 : Hid (Below _ _ _) := hb1; clear hb1)
        | (go_at_call 21; go_must (refine (k0 _).mono ?_); rintro e w2 ⟨rfl, hb2⟩; have HB2 : Hid (Below _ _ _) := hb2; clear hb2)
        | (go_at_call 22; go_must (refine (k1 _).mono ?_); rintro e w3 ⟨rfl, hb3⟩; have HB3 : Hid (Below _ _ _) := hb3; clear hb3)
        | (go_at_call 23; go_must (refine (k2 _).mono ?_); rintro e w4 ⟨rfl, hb4⟩; have HB4 : Hid (Below _ _ _) := hb4; clear hb4)
        | (go_at_call 24; go_must (refine (r0 _).mono ?_); rintro e w5 ⟨rfl, hb5⟩; have HB5 : Hid (Below _ _ _) := hb5; clear hb5)
        | (go_at_call 25; go_must (refine (r1 _).mono ?_); rintro e w6 ⟨rfl, hb6⟩; have HB6 : Hid (Below _ _ _) := hb6; clear hb6)
        | (go_at_call 26; go_must (refine (r2 _).mono ?_); rintro e w7 ⟨rfl, hb7⟩; have HB7 : Hid (Below _ _ _) := hb7; clear hb7)
        | (go_at_call_of 12 (9 : Int); refine (kd _).mono ?_; rintro e wx ⟨rfl, hwx⟩; rw [hwx]; clear hwx wx)
        | (go_at_call 12; refine (kc _).mono ?_; rintro e wx ⟨rfl, hwx⟩; rw [hwx]; clear hwx wx))
      all_goals exact hQ.out _ _ ⟨by simp, cthen (cthen (cthen (cthen (cthen (cthen (cthen (Below.refl _ _) HB1.out) HB2.out) HB3.out) HB4.out) HB5.out) HB6.out) HB7.out⟩
end Go.Proofs.Ytfmhhcmjcmechaa
