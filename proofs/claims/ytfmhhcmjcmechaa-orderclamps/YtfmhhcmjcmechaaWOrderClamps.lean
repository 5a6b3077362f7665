import Derived.Test.YtfmhhcmjcmechaaJoin2
namespace Go.Proofs.Ytfmhhcmjcmechaa
open Go.ChangeShapes Go.WideShapes Go.ChangeAt Go.RowKit
set_option linter.unusedVariables false
set_option linter.unusedSimpArgs false
set_option maxRecDepth 100000

theorem orderClamps_walk (n ip ilo ihi : Int) (wn : (Lit.int .i64 n).wf = true) (wp : (Lit.int .u64 ip).wf = true) (wlo : (Lit.int .u64 ilo).wf = true) (whi : (Lit.int .u64 ihi).wf = true) (w : World) :
    Calls Try.prog 8 #[.int .i64 n, .int .u64 ip, .int .u64 ilo, .int .u64 ihi] w fun e w' => e = .returned (.bool true) ∧ Below w.heap.size w w' := by
  obtain ⟨p, rfl, hp⟩ := nat_of_u64 wp
  obtain ⟨lo, rfl, hlo⟩ := nat_of_u64 wlo
  obtain ⟨hi, rfl, hhi⟩ := nat_of_u64 whi
  clear wn wp wlo whi
  refine cps fun Q hQ => ?_
  cases hisw : isW n
  · have k0 := oclamp_no n p lo hi hisw
    have r0 := clamp8_no n p lo hi hisw
    have kc := code_any 2
    rw [show codeOf 2 = 2 from rfl] at kc
    unfold codeO at *
    clear hisw hp hlo hhi
    go_enter Try.func8, Try.ntmps8
    go_wp2_with (first
      | (go_at_call 9; go_must (refine (oup_any _).mono ?_); rintro e w1 ⟨rfl, hb1⟩; have HB1 : Hid (Below _ _ _) := hb1; clear hb1)
      | (go_at_call 29; go_must (refine (k0 _).mono ?_); rintro e w2 ⟨rfl, hb2⟩; have HB2 : Hid (Below _ _ _) := hb2; clear hb2)
      | (go_at_call 30; go_must (refine (r0 _).mono ?_); rintro e w3 ⟨rfl, hb3⟩; have HB3 : Hid (Below _ _ _) := hb3; clear hb3)
      | (go_at_call 12; refine (kc _).mono ?_; rintro e wx ⟨rfl, hwx⟩; rw [hwx]; clear hwx wx))
    all_goals exact hQ.out _ _ ⟨by simp, cthen (cthen (cthen (Below.refl _ _) HB1.out) HB2.out) HB3.out⟩
  · obtain ⟨m, rfl, hm⟩ := isW_yes hisw
    have k0 := oclamp_ok m p lo hi hm hp hlo hhi
    have r0 := clamp8_ok m p lo hi hm 
    clear hisw hm hp hlo hhi
    have hv : (clampV m p lo hi).1 = 9 ∧ (clampV m p lo hi).2 = 0 ∨ (clampV m p lo hi).1 = 1 ∧ (clampV m p lo hi).2 = 0 ∨ (clampV m p lo hi).1 = 0 := by
      unfold clampV
      split
      · exact .inl ⟨rfl, rfl⟩
      · split
        · exact .inr (.inl ⟨rfl, rfl⟩)
        · exact .inr (.inr rfl)
    generalize clampV m p lo hi = v at *
    obtain ⟨v1, v2⟩ := v
    simp only at hv k0 r0
    rcases hv with ⟨rfl, rfl⟩ | ⟨rfl, rfl⟩ | rfl
    · have kc := code_any 9
      rw [show codeOf 9 = 9 from rfl] at kc
      rw [if_neg (by decide), show ((0 : Nat) : Int) = 0 from rfl] at k0
      rw [show ((0 : Nat) : Int) = 0 from rfl] at r0
      unfold codeO at *
      go_enter Try.func8, Try.ntmps8
      go_wp2_with (first
        | (go_at_call 9; go_must (refine (oup_any _).mono ?_); rintro e w1 ⟨rfl, hb1⟩; have HB1 : Hid (Below _ _ _) := hb1; clear hb1)
        | (go_at_call 29; go_must (refine (k0 _).mono ?_); rintro e w2 ⟨rfl, hb2⟩; have HB2 : Hid (Below _ _ _) := hb2; clear hb2)
        | (go_at_call 30; go_must (refine (r0 _).mono ?_); rintro e w3 ⟨rfl, hb3⟩; have HB3 : Hid (Below _ _ _) := hb3; clear hb3)
        | (go_at_call 12; refine (kc _).mono ?_; rintro e wx ⟨rfl, hwx⟩; rw [hwx]; clear hwx wx))
      all_goals exact hQ.out _ _ ⟨by simp, cthen (cthen (cthen (Below.refl _ _) HB1.out) HB2.out) HB3.out⟩
    · have kc := code_any 1
      rw [show codeOf 1 = 1 from rfl] at kc
      rw [if_neg (by decide), show ((0 : Nat) : Int) = 0 from rfl] at k0
      rw [show ((0 : Nat) : Int) = 0 from rfl] at r0
      unfold codeO at *
      go_enter Try.func8, Try.ntmps8
      go_wp2_with (first
        | (go_at_call 9; go_must (refine (oup_any _).mono ?_); rintro e w1 ⟨rfl, hb1⟩; have HB1 : Hid (Below _ _ _) := hb1; clear hb1)
        | (go_at_call 29; go_must (refine (k0 _).mono ?_); rintro e w2 ⟨rfl, hb2⟩; have HB2 : Hid (Below _ _ _) := hb2; clear hb2)
        | (go_at_call 30; go_must (refine (r0 _).mono ?_); rintro e w3 ⟨rfl, hb3⟩; have HB3 : Hid (Below _ _ _) := hb3; clear hb3)
        | (go_at_call 12; refine (kc _).mono ?_; rintro e wx ⟨rfl, hwx⟩; rw [hwx]; clear hwx wx))
      all_goals exact hQ.out _ _ ⟨by simp, cthen (cthen (cthen (Below.refl _ _) HB1.out) HB2.out) HB3.out⟩
    · have kc := code_nil
      rw [if_pos rfl] at k0
      go_enter Try.func8, Try.ntmps8
      go_wp2_with (first
        | (go_at_call 9; go_must (refine (oup_any _).mono ?_); rintro e w1 ⟨rfl, hb1⟩; have HB1 : Hid (Below _ _ _) := hb1; clear hb1)
        | (go_at_call 29; go_must (refine (k0 _).mono ?_); rintro e w2 ⟨rfl, hb2⟩; have HB2 : Hid (Below _ _ _) := hb2; clear hb2)
        | (go_at_call 30; go_must (refine (r0 _).mono ?_); rintro e w3 ⟨rfl, hb3⟩; have HB3 : Hid (Below _ _ _) := hb3; clear hb3)
        | (go_at_call 12; refine (kc _).mono ?_; rintro e wx ⟨rfl, hwx⟩; rw [hwx]; clear hwx wx))
      all_goals exact hQ.out _ _ ⟨by simp, cthen (cthen (cthen (Below.refl _ _) HB1.out) HB2.out) HB3.out⟩
end Go.Proofs.Ytfmhhcmjcmechaa
